import PyProof.Rows.All
import Wide.All
import OpenK.AllK
import Wide.FinOn
import Lean
import PyProof.EqAt
import PyProof.EqKinds
import PyProof.TupleCall
import KE.KSortTup
import PyProof.EnumMake
import PyProof.EnumStmt
import PyProof.ListRange
import KE.KDictList
import PyProof.Rows.SortPure
import PyProof.Rows.SortRuns
import KE.KRevIter
import PySem.Challenge.RW_pricecover_k04_below
set_option Elab.async false
set_option linter.all false
set_option maxRecDepth 100000
set_option maxHeartbeats 4000000
namespace L2
open PySem PySem.Spec PyProof.Rows
abbrev Key := Sum Int Str
def keyIs : Key → Value → Bool
  | .inl k, v => Value.isInt k v
  | .inr x, v => Value.isStrOf x v
def keyH (w : World) : Key → Int
  | .inl k => hashInt k
  | .inr x => hashStr w x
theorem keyIs_shape : ∀ {k : Key} {v : Value}, keyIs k v = true → (∃ i t, k = Sum.inl i ∧ v = Value.int i t) ∨ (∃ x t, k = Sum.inr x ∧ v = Value.str x t)
  | .inl i, v, h => by
    obtain ⟨t, e⟩ := Value.isInt_shape (k := i) (v := v) h
    exact .inl ⟨i, t, rfl, e⟩
  | .inr x, v, h => by
    obtain ⟨t, e⟩ := Value.isStrOf_shape (x := x) (v := v) h
    exact .inr ⟨x, t, rfl, e⟩
theorem keyIs_int (i : Int) (t : Tok) : keyIs (.inl i) (.int i t) = true := by simp [keyIs, Value.isInt]
theorem keyIs_str (x : Str) (t : Tok) : keyIs (.inr x) (.str x t) = true := by simp [keyIs, Value.isStrOf]
theorem key_ll (a b : Int) : decide ((Sum.inl a : Key) = Sum.inl b) = (a == b) := by
  by_cases e : a = b
  · subst e; simp
  · have h : ¬ (Sum.inl a : Key) = Sum.inl b := fun q => e (Sum.inl.inj q)
    rw [decide_eq_false h]
    exact (beq_eq_false_iff_ne.mpr e).symm
theorem key_rr (a b : Str) : decide ((Sum.inr a : Key) = Sum.inr b) = decide (a = b) := by
  by_cases e : a = b
  · subst e; simp
  · have h : ¬ (Sum.inr a : Key) = Sum.inr b := fun q => e (Sum.inr.inj q)
    rw [decide_eq_false h, decide_eq_false e]
theorem key_lr (a : Int) (b : Str) : decide ((Sum.inl a : Key) = Sum.inr b) = false := decide_eq_false (fun q => nomatch q)
theorem key_rl (a : Str) (b : Int) : decide ((Sum.inr a : Key) = Sum.inl b) = false := decide_eq_false (fun q => nomatch q)
def mixKind (prog : Program) (w : World) : PySem.KeyKind prog w Key where
  is := keyIs
  hash := keyH w
  inj := fun v a b ha hb => by
    rcases keyIs_shape ha with ⟨i, t, rfl, rfl⟩ | ⟨x, t, rfl, rfl⟩
    · rcases keyIs_shape hb with ⟨j, u, rfl, e⟩ | ⟨y, u, rfl, e⟩
      · injection e with e1 _; rw [e1]
      · exact nomatch e
    · rcases keyIs_shape hb with ⟨j, u, rfl, e⟩ | ⟨y, u, rfl, e⟩
      · exact nomatch e
      · injection e with e1 _; rw [e1]
  byValue := fun k v h => by
    rcases keyIs_shape h with ⟨i, t, rfl, rfl⟩ | ⟨x, t, rfl, rfl⟩ <;> rfl
  pyHash := fun hv h => by
    rcases keyIs_shape hv with ⟨i, t, rfl, rfl⟩ | ⟨x, t, rfl, rfl⟩
    · exact wpAny_pyHash_int h
    · exact wpAny_pyHash_str h
  eqBool := fun hu hv h => by
    rcases keyIs_shape hu with ⟨i, t, rfl, rfl⟩ | ⟨x, t, rfl, rfl⟩
    · rcases keyIs_shape hv with ⟨j, u, rfl, rfl⟩ | ⟨y, u, rfl, rfl⟩
      · rw [key_ll] at h; exact wpAny_eqBool_int h
      · rw [key_lr] at h; exact SeqAt.EqAt.int_str i t y u _ _ _ _ h
    · rcases keyIs_shape hv with ⟨j, u, rfl, rfl⟩ | ⟨y, u, rfl, rfl⟩
      · rw [key_rl] at h; exact SeqAt.EqAt.str_int x t j u _ _ _ _ h
      · rw [key_rr] at h; exact wpAny_eqBool_str h
  «strs» := fun k x t v h => by
    rcases keyIs_shape h with ⟨i, u, rfl, e⟩ | ⟨y, u, rfl, e⟩
    · exact nomatch e
    · injection e with e1 _
      subst e1
      cases v <;> rfl
theorem mixKind_int (prog : Program) (w : World) (i : Int) (t : Tok) : (mixKind prog w).is (.inl i) (.int i t) = true := keyIs_int i t
theorem mixKind_str (prog : Program) (w : World) (x : Str) (t : Tok) : (mixKind prog w).is (.inr x) (.str x t) = true := keyIs_str x t
end L2
namespace L2
open PySem PySem.Spec PyProof.Rows
inductive V where
  | non | bl (b : Bool) | int (i : Int) | str (x : Str) | byt (b : Array UInt8) | flt (b : UInt64) | ref (a : Addr) | ty (n : String)
  deriving DecidableEq
def RelV : V → Value → Prop
  | .non, u => u = Value.none
  | .bl b, u => u = Value.bool b
  | .int i, u => ∃ t, u = Value.int i t
  | .str x, u => ∃ t, u = Value.str x t
  | .byt b, u => ∃ t, u = Value.bytes b t
  | .flt b, u => ∃ t, u = Value.float b t
  | .ref a, u => u = Value.ref a
  | .ty n, u => u = Value.type n
abbrev Vals : List V → List Value → Prop := Paired RelV
theorem Vals.length {xs : List V} {us : List Value} (r : Vals xs us) : xs.length = us.length := Paired.length r
theorem Vals.get : ∀ {xs : List V} {us : List Value} {i : Nat} {x : V}, Vals xs us → xs[i]? = some x → ∃ u, us[i]? = some u ∧ RelV x u
  | _, _, _, _, .nil, e => by simp at e
  | _, _, 0, _, .cons r _, e => by simp at e; subst e; exact ⟨_, rfl, r⟩
  | _, _, i + 1, x, .cons _ t, e => by
    obtain ⟨u, h1, h2⟩ := Vals.get (i := i) (x := x) t (by simpa using e)
    exact ⟨u, by simpa using h1, h2⟩
theorem Vals.set {x : V} {u : Value} (r : RelV x u) : ∀ {xs : List V} {us : List Value} (i : Nat), Vals xs us → Vals (xs.set i x) (us.set i u)
  | _, _, _, .nil => .nil
  | _, _, 0, .cons _ t => .cons r t
  | _, _, i + 1, .cons q t => .cons q (Vals.set r i t)
theorem Vals.append : ∀ {xs ys : List V} {us ws : List Value}, Vals xs us → Vals ys ws → Vals (xs ++ ys) (us ++ ws)
  | _, _, _, _, .nil, s => s
  | _, _, _, _, .cons r t, s => .cons r (Vals.append t s)
theorem Vals.take : ∀ {xs : List V} {us : List Value} (n : Nat), Vals xs us → Vals (xs.take n) (us.take n)
  | _, _, 0, _ => .nil
  | _, _, _ + 1, .nil => .nil
  | _, _, n + 1, .cons r t => .cons r (Vals.take n t)
theorem Vals.drop : ∀ {xs : List V} {us : List Value} (n : Nat), Vals xs us → Vals (xs.drop n) (us.drop n)
  | _, _, 0, r => r
  | _, _, _ + 1, .nil => .nil
  | _, _, n + 1, .cons _ t => Vals.drop n t
def RelO : Option V → Option Value → Prop
  | some v, some u => RelV v u
  | none, none => True
  | _, _ => False
def KV {κ : Type} : List (κ × V) → List (κ × Value) → Prop := Paired fun (p : κ × V) (q : κ × Value) => p.1 = q.1 ∧ RelV p.2 q.2
def kV : Key → V
  | .inl i => .int i
  | .inr x => .str x
inductive HO where
    | lst (xs : List V)
    | tup (xs : List V)
    | dK (kvs : List (Key × V)) | dT (kvs : List (List Key × V))
    | set (S : Int → Bool) (n : Nat)
    | ins (C dx : Addr) (fs : List (Str × V))
    | own (x : Addr)
    | xd (fs : List (Str × V))
    | met (f x : Addr)
    | rng (lo hi : Int)
    | frz (o : Obj) (u : HO)
    | tbl (ps : Array Value)
    | ext (φ : Heap → Prop)
abbrev Hp := Addr → Option HO
def upd (H : Hp) (a : Addr) (o : HO) : Hp := fun b => if b = a then some o else H b
theorem upd_same {H : Hp} {a : Addr} {o : HO} : upd H a o a = some o := by unfold upd; rw [if_pos rfl]
theorem upd_ne {H : Hp} {a b : Addr} {o : HO} (h : b ≠ a) : upd H a o b = H b := by unfold upd; rw [if_neg h]
theorem ne_of {H : Hp} {a b : Addr} {o u : HO} (h : H a = some o) (h' : H b = some u) (d : o ≠ u) : a ≠ b := by
  intro e; subst e; rw [h] at h'; exact d (Option.some.inj h')
theorem ne_of_none {H : Hp} {a b : Addr} {o : HO} (h : H a = some o) (h' : H b = none) : a ≠ b := by
  intro e; subst e; rw [h] at h'; cases h'
section
variable (P : Program) (w : World)
def IsTupD (h : Heap) (a : Addr) (its : Array Value) : Prop := ∃ o, h.get? a = some o ∧ o.cls = .type "tuple" ∧ ∃ n, o.data = .seq its n ∧ o.dict = none
theorem IsTupD.tup {h : Heap} {a : Addr} {its : Array Value} (x : IsTupD h a its) : IsTup h a its := let ⟨o, h1, h2, n, h3, _⟩ := x; ⟨o, h1, h2, n, h3⟩
def ObjOk (H : Hp) (h : Heap) (a : Addr) : HO → Prop
  | .lst xs => xs.length ≤ sizeLine ∧ ∃ (its : List Value) (n : Nat), Vals xs its ∧ h.get? a = some { cls := .type "list", data := .seq its.toArray n }
  | .tup xs => xs.length ≤ sizeLine ∧ ∃ its : List Value, Vals xs its ∧ IsTupD h a its.toArray
  | .dK kvs => kvs.length ≤ sizeLine ∧ (a == sysModules) = false ∧ ∃ vs, KV kvs vs ∧ h.DictOf (mixKind P w) a vs
  | .dT kvs => kvs.length ≤ sizeLine ∧ (a == sysModules) = false ∧ ∃ xs : List (List Key × Addr × Value),
      Paired (fun (p : List Key × V) (q : List Key × Addr × Value) => p.1 = q.1 ∧ H q.2.1 = some (.tup (p.1.map kV)) ∧ RelV p.2 q.2.2) kvs xs ∧
      ∃ o es ep, h.get? a = some o ∧ o.ExactDict ∧ o.data = .dict es ep ∧ es.toList = xs.map (entryOfKey (tupleKind (mixKind P w))) ∧ (xs.map (·.1)).Nodup
  | .set S n => h.SetOf (intKind P w) a S n
  | .ins C dx fs => H dx = some (.own a) ∧ fs.length ≤ 1000 ∧ dx ≠ a ∧ h.get? a = some (PySem.W.instObj C dx) ∧
      ∃ mA, h.Ns1 dx mA ∧ (∀ f, RelO (fs.lookup f) (mA f)) ∧ PySem.Within mA (fs.map (·.1))
  | .own _ => ∃ o, h.get? a = some o
  | .xd fs => ∃ mA, h.Ns1 a mA ∧ ∀ f, RelO (fs.lookup f) (mA f)
  | .rng lo hi => ∃ t u v, h.get? a = some { cls := .type "range", data := .fields #[.int lo t, .int hi u, .int 1 v] }
  | .frz o u => h.get? a = some o ∧ ObjOk H h a u
  | .tbl ps => h.get? a = some { cls := .none, data := .fields ps }
  | .met f x => h.get? a = some (PySem.W.methodObj (.ref f) (.ref x))
  | .ext φ => φ h ∧ (∃ o, h.get? a = some o) ∧ ∀ h1 h2 : Heap, φ h1 → (∀ o, h1.get? a = some o → h2.get? a = some o) → φ h2
def HOk (H : Hp) (h : Heap) : Prop := ∀ a o, H a = some o → ObjOk P w H h a o
end
section
variable {P : Program} {w : World} {H H' : Hp} {h h' : Heap} {a : Addr} {o : HO}
theorem ObjOk.lt (x : ObjOk P w H h a o) : a < h.objs.size := by
  cases o with
  | lst xs => obtain ⟨_, _, _, _, e⟩ := x; exact Heap.lt_size e
  | tup xs => obtain ⟨_, _, _, p⟩ := x; exact p.tup.lt
  | dK kvs => obtain ⟨_, _, _, _, o, _, _, e, _⟩ := x; exact Heap.lt_size e
  | dT kvs => obtain ⟨_, _, _, _, o, _, _, e, _⟩ := x; exact Heap.lt_size e
  | set S n => obtain ⟨o, _, _, _, e, _⟩ := x; exact Heap.lt_size e
  | ins C dx fs => obtain ⟨_, _, _, e, _⟩ := x; exact Heap.lt_size e
  | own y => obtain ⟨_, e⟩ := x; exact Heap.lt_size e
  | xd fs => obtain ⟨_, ⟨_, _, _, e, _⟩, _⟩ := x; exact Heap.lt_size e
  | rng lo hi => obtain ⟨_, _, _, e⟩ := x; exact Heap.lt_size e
  | frz ob u => obtain ⟨e, _⟩ := x; exact Heap.lt_size e
  | tbl ps => exact Heap.lt_size (show h.get? a = some _ from x)
  | met f y => exact Heap.lt_size (show h.get? a = some _ from x)
  | ext φ => obtain ⟨_, ⟨_, e⟩, _⟩ := x; exact Heap.lt_size e
theorem Paired.mapP {α β : Type} {F G : α → β → Prop} : ∀ {l₁ : List α} {l₂ : List β}, Paired F l₁ l₂ → (∀ a b, F a b → G a b) → Paired G l₁ l₂
  | _, _, .nil, _ => .nil
  | _, _, .cons r t, f => .cons (f _ _ r) (Paired.mapP t f)
theorem ObjOk.stay (x : ObjOk P w H h a o) (k : ∀ b u, (b = a ∨ H b = some (.own a)) → h.get? b = some u → h'.get? b = some u)
    (ho : ∀ b, H b = some (.own a) → H' b = some (.own a)) (ht : ∀ b xs, H b = some (.tup xs) → H' b = some (.tup xs)) : ObjOk P w H' h' a o := by
  induction o with
  | lst xs => obtain ⟨z, its, n, r, e⟩ := x; exact ⟨z, its, n, r, k _ _ (.inl rfl) e⟩
  | tup xs => obtain ⟨z, its, r, ob, e, c⟩ := x; exact ⟨z, its, r, ob, k _ _ (.inl rfl) e, c⟩
  | dK kvs => obtain ⟨z, y, vs, r, ob, es, ep, e, c⟩ := x; exact ⟨z, y, vs, r, ob, es, ep, k _ _ (.inl rfl) e, c⟩
  | dT kvs =>
    obtain ⟨z, y, xs, r, ob, es, ep, e, c⟩ := x
    exact ⟨z, y, xs, Paired.mapP r fun p q z => ⟨z.1, ht _ _ z.2.1, z.2.2⟩, ob, es, ep, k _ _ (.inl rfl) e, c⟩
  | set S n => obtain ⟨ob, es, ep, t, e, c⟩ := x; exact ⟨ob, es, ep, t, k _ _ (.inl rfl) e, c⟩
  | ins C dx fs =>
    obtain ⟨d, z, ne, e, mA, ⟨od, es, ep, e2, c⟩, r⟩ := x
    exact ⟨ho _ d, z, ne, k _ _ (.inl rfl) e, mA, ⟨od, es, ep, k _ _ (.inr d) e2, c⟩, r⟩
  | own y => obtain ⟨ob, e⟩ := x; exact ⟨ob, k _ _ (.inl rfl) e⟩
  | xd fs => obtain ⟨mA, ⟨od, es, ep, e, c⟩, r⟩ := x; exact ⟨mA, ⟨od, es, ep, k _ _ (.inl rfl) e, c⟩, r⟩
  | rng lo hi => obtain ⟨t, u, v, e⟩ := x; exact ⟨t, u, v, k _ _ (.inl rfl) e⟩
  | frz ob u ih => obtain ⟨e, q⟩ := x; exact ⟨k _ _ (.inl rfl) e, ih q⟩
  | tbl ps =>
    have e : h.get? a = some { cls := .none, data := .fields ps } := x
    show h'.get? a = some { cls := .none, data := .fields ps }
    exact k a _ (.inl rfl) e
  | met f y =>
    have e : h.get? a = some (PySem.W.methodObj (.ref f) (.ref y)) := x
    show h'.get? a = some (PySem.W.methodObj (.ref f) (.ref y))
    exact k a _ (.inl rfl) e
  | ext φ => obtain ⟨p, ⟨o, e⟩, st⟩ := x; exact ⟨st _ _ p fun o q => k _ _ (.inl rfl) q, ⟨o, k _ _ (.inl rfl) e⟩, st⟩
theorem HOk.lt (x : HOk P w H h) (e : H a = some o) : a < h.objs.size := (x a o e).lt
theorem HOk.fresh (x : HOk P w H h) (e : h.objs.size ≤ a) : H a = none := by
  cases q : H a with
  | none => rfl
  | some u => exact absurd (Nat.lt_of_lt_of_le (x.lt q) e) (Nat.lt_irrefl _)
theorem HOk.kept (x : HOk P w H h) (k : ∀ b u, h.get? b = some u → h'.get? b = some u) : HOk P w H h' := fun a o e =>
  (x a o e).stay (fun b u _ q => k b u q) (fun _ q => q) fun _ _ q => q
theorem HOk.laid (x : HOk P w H h) (k : ∀ b u, h.get? b = some u → h'.get? b = some u) (hp : h.objs.size ≤ a) (new : ObjOk P w (upd H a o) h' a o) : HOk P w (upd H a o) h' := fun b u e => by
  have hn := x.fresh hp
  by_cases hb : b = a
  · subst hb; rw [upd_same] at e; cases e; exact new
  · rw [upd_ne hb] at e
    exact (x b u e).stay (fun c v _ q => k c v q) (fun c q => by rw [upd_ne (ne_of_none q hn)]; exact q) fun c xs q => by rw [upd_ne (ne_of_none q hn)]; exact q
end
def Rd (H : Hp) (a : Addr) (u : HO) : Prop := H a = some u ∨ ∃ o, H a = some (.frz o u)
theorem Rd.of {H : Hp} {a : Addr} {u : HO} (h : H a = some u) : Rd H a u := .inl h
theorem Rd.ok {P : Program} {w : World} {H : Hp} {h : Heap} {a : Addr} {u : HO} (r : Rd H a u) (x : HOk P w H h) : ObjOk P w H h a u := by
  rcases r with r | ⟨o, r⟩
  · exact x a u r
  · obtain ⟨_, q⟩ := x a _ r
    exact q
def Mut : Option HO → Prop
  | some (.lst _) => True
  | some (.dK _) => True
  | some (.dT _) => True
  | some (.set _ _) => True
  | some (.ins _ _ _) => True
  | some (.ext _) => True
  | _ => False
section
variable {P : Program} {w : World} {H : Hp} {h h' : Heap} {x e : Addr} {o' : HO}
theorem HOk.write (ok : HOk P w H h) (mu : Mut (H x)) (he : e = x ∨ H e = some (.own x)) (k : ∀ b u, b ≠ e → h.get? b = some u → h'.get? b = some u) (heo : ∃ u, h'.get? e = some u)
    (new : ObjOk P w (upd H x o') h' x o') : HOk P w (upd H x o') h' := fun b u q => by
  have nown : ∀ c y, H c = some (.own y) → c ≠ x := fun c y r z => by subst z; rw [r] at mu; exact mu
  have ntup : ∀ c xs, H c = some (.tup xs) → c ≠ x := fun c xs r z => by subst z; rw [r] at mu; exact mu
  by_cases hb : b = x
  · subst hb; rw [upd_same] at q; cases q; exact new
  · rw [upd_ne hb] at q
    by_cases hbe : b = e
    · have q' : H b = some (.own x) := by
        rcases he with z | z
        · exact absurd (hbe.trans z) hb
        · rw [hbe]; exact z
      rw [q] at q'; cases q'
      obtain ⟨v, hv⟩ := heo
      exact ⟨v, by rw [hbe]; exact hv⟩
    · refine (ok b u q).stay (fun c v hc r => k c v ?_ r) (fun c r => by rw [upd_ne (nown c b r)]; exact r) fun c xs r => by rw [upd_ne (ntup c xs r)]; exact r
      rcases hc with rfl | hc
      · exact hbe
      · rintro rfl
        rcases he with z | z
        · exact nown c b hc z
        · rw [hc] at z; cases z; exact hb rfl
end
structure Un (fs ex : List Addr) (H H' : Hp) (h h' : Heap) : Prop where
  keep : ∀ b o, h.get? b = some o → H b = none → b ∉ fs → b ∉ ex → h'.get? b = some o
  slot : ∀ b o, h.get? b = some o → H b = none → b ∈ fs → b ∉ ex → ∃ sl, h'.get? b = some { o with slots := sl }
  free : ∀ b o, h.get? b = some o → H b = none → b ∉ ex → H' b = none
  there : ∀ b o, h.get? b = some o → b ∉ ex → ∃ o', h'.get? b = some o'
  tups : ∀ b xs, H b = some (.tup xs) → H' b = some (.tup xs)
  frzs : ∀ b o u, H b = some (.frz o u) → H' b = some (.frz o u)
  tbls : ∀ b ps, H b = some (.tbl ps) → ∃ more, H' b = some (.tbl (ps ++ more))
section
variable {fs fs' ex ex' : List Addr} {H H1 H2 : Hp} {h h1 h2 h' : Heap} {a x e : Addr} {o : HO}
theorem Un.any (u : Un fs ex H H1 h h1) {b : Addr} {ob : Obj} (q : h.get? b = some ob) (n : H b = none) (hx : b ∉ ex) : ∃ sl, h1.get? b = some { ob with slots := sl } := by
  by_cases hb : b ∈ fs
  · exact u.slot b ob q n hb hx
  · exact ⟨ob.slots, u.keep b ob q n hb hx⟩
theorem Un.trans (a : Un fs ex H H1 h h1) (b : Un fs ex H1 H2 h1 h2) : Un fs ex H H2 h h2 where
  keep := fun c ob q n hc hx => b.keep c ob (a.keep c ob q n hc hx) (a.free c ob q n hx) hc hx
  slot := fun c ob q n hc hx => by
    obtain ⟨sl, e1⟩ := a.slot c ob q n hc hx
    obtain ⟨sl', e2⟩ := b.slot c _ e1 (a.free c ob q n hx) hc hx
    exact ⟨sl', e2⟩
  free := fun c ob q n hx => by
    obtain ⟨o', e1⟩ := a.there c ob q hx
    exact b.free c o' e1 (a.free c ob q n hx) hx
  there := fun c ob q hx => by
    obtain ⟨o', e1⟩ := a.there c ob q hx
    exact b.there c o' e1 hx
  tups := fun c xs q => b.tups c xs (a.tups c xs q)
  frzs := fun c ob xs q => b.frzs c ob xs (a.frzs c ob xs q)
  tbls := fun c ps q => by
    obtain ⟨m1, e1⟩ := a.tbls c ps q
    obtain ⟨m2, e2⟩ := b.tbls c _ e1
    exact ⟨m1 ++ m2, by rw [e2, Array.append_assoc]⟩
theorem Un.kept (k : ∀ b u, h.get? b = some u → h'.get? b = some u) : Un fs ex H H h h' :=
  ⟨fun b ob q _ _ _ => k b ob q, fun b ob q _ _ _ => ⟨ob.slots, k b ob q⟩, fun _ _ _ n _ => n, fun b ob q _ => ⟨ob, k b ob q⟩, fun _ _ q => q, fun _ _ _ q => q, fun _ ps q => ⟨#[], by rw [q]; simp⟩⟩
theorem Un.refl : Un fs ex H H h h := Un.kept fun _ _ q => q
theorem Un.laid (k : ∀ b u, h.get? b = some u → h'.get? b = some u) (hp : h.objs.size ≤ a) (hn : H a = none) : Un fs ex H (upd H a o) h h' where
  keep := fun b u q _ _ _ => k b u q
  slot := fun b u q _ _ _ => ⟨u.slots, k b u q⟩
  free := fun b u q n _ => by rw [upd_ne (Nat.ne_of_lt (Nat.lt_of_lt_of_le (Heap.lt_size q) hp))]; exact n
  there := fun b u q _ => ⟨u, k b u q⟩
  tups := fun b xs q => by rw [upd_ne (ne_of_none q hn)]; exact q
  frzs := fun b u xs q => by rw [upd_ne (ne_of_none q hn)]; exact q
  tbls := fun b ps q => ⟨#[], by rw [upd_ne (ne_of_none q hn), q]; simp⟩
theorem Un.write (mu : Mut (H x)) (he : e = x ∨ H e = some (.own x)) (k : ∀ b u, b ≠ e → h.get? b = some u → h'.get? b = some u) (heo : ∃ u, h'.get? e = some u) : Un fs ex H (upd H x o) h h' := by
  have hx : ∀ b, H b = none → b ≠ x := fun b n z => by subst z; rw [n] at mu; exact mu
  have hb : ∀ b, H b = none → b ≠ e := fun b n z => by
    subst z
    rcases he with r | r
    · exact hx b n r
    · rw [n] at r; cases r
  have hm : ∀ b u, H b = some u → ¬ Mut (some u) → b ≠ x := fun b u q nm z => by subst z; rw [q] at mu; exact nm mu
  refine ⟨fun b u q n _ _ => k b u (hb b n) q, fun b u q n _ _ => ⟨u.slots, k b u (hb b n) q⟩, fun b u q n _ => by rw [upd_ne (hx b n)]; exact n, fun b u q _ => ?_,
    fun b xs q => by rw [upd_ne (hm b _ q fun z => z)]; exact q, fun b u xs q => by rw [upd_ne (hm b _ q fun z => z)]; exact q, fun b ps q => ⟨#[], by rw [upd_ne (hm b _ q fun z => z), q]; simp⟩⟩
  by_cases hbe : b = e
  · subst hbe; exact heo
  · exact ⟨u, k b u hbe q⟩
theorem Un.mono (u : Un fs ex H H1 h h1) (hs : ∀ b ∈ fs, b ∈ fs') (hx : ∀ b ∈ ex, b ∈ ex') : Un fs' ex' H H1 h h1 :=
  ⟨fun b ob q n hb he => u.keep b ob q n (fun z => hb (hs b z)) fun z => he (hx b z), fun _ _ q n _ he => u.any q n fun z => he (hx _ z), fun b ob q n he => u.free b ob q n fun z => he (hx b z), fun b ob q he => u.there b ob q fun z => he (hx b z), u.tups, u.frzs, u.tbls⟩
end
def trk (h : Heap) (H : Hp) : List Addr := (List.range h.objs.size).filter fun a => (H a).isSome
def hidT (h : Heap) (H : Hp) : Heap := PySem.W.hideAll h (trk h H)
theorem hidT_size (h : Heap) (H : Hp) : (hidT h H).objs.size = h.objs.size := PySem.W.hideAll_size _ _
theorem hidT_get {h : Heap} {H : Hp} {b : Addr} {o : Obj} (e : h.get? b = some o) (n : H b = none) : (hidT h H).get? b = some o :=
  PySem.W.hideAll_get _ e fun hm => by
    have q : (H b).isSome = true := (List.mem_filter.mp hm).2
    rw [n] at q; simp at q
theorem of_hidT {h : Heap} {H : Hp} {b : Addr} {o : Obj} (e : (hidT h H).get? b = some o) : h.get? b = some o ∧ H b = none := by
  have e' : h.get? b = some o := PySem.W.of_hideAll (trk h H) e
  refine ⟨e', ?_⟩
  cases q : H b with
  | none => rfl
  | some x =>
    have hm : b ∈ trk h H := List.mem_filter.mpr ⟨List.mem_range.mpr (Heap.lt_size e'), by simp [q]⟩
    have z : (hidT h H).get? b = none := PySem.W.hideAll_none (trk h H) hm
    rw [z] at e; cases e
def allNews (g h : Heap) (L : Addr) : List (Addr × Obj) := (List.range h.objs.size).filterMap fun a => if a = L ∨ (g.get? a).isSome = true then none else (h.get? a).map fun o => (a, o)
def rest (g h : Heap) (L d : Addr) : List (Addr × Obj) := (allNews g h L).filter fun p => decide (p.1 ≠ d)
end L2
namespace L2
open PySem PySem.Spec PyProof.Rows
structure Mod (K : PySem.W.Frag) (mg : Str → Option Value) (base : Heap) : Prop where
  kin : K.In base
  glob : base.Ns mainGlobals mg
  blt : ∃ mb, base.Ns builtinsNs mb ∧ ∀ x : Str, x ≠ "__name__" → mb x = bootBuiltins x
  nolimit : base.NoLimit
structure Cx where
  prog : Program
  w : World
  K : PySem.W.Frag
  mg : Str → Option Value
  base : Heap
  A : Around
  N : List Str
  s₀ : Shared
  H₀ : Hp
  env : Env
  outer : List Env
  stack : List Env
  ex : List Addr
  fn : Str → Bool
  calm : Bool
  pn : List (Addr × Obj)
  xe : Value → Shared → Prop
def frs (l : List Env) : List Addr := l.filterMap (·.frame)
abbrev Cx.fs (X : Cx) : List Addr := frs X.outer
def Vis (sc : Scope) (x : Str) : Prop := sc.names.lookup x = some .local ∨ sc.names.lookup x = some .cell ∨ sc.names.lookup x = some .free
def Loc (sc : Scope) (x : Str) : Prop := sc.names.lookup x = some .local ∨ sc.names.lookup x = some .cell
def Look (env : Env) (h : Heap) (m : Str → Option Value) (x : Str) (u : Value) : Prop :=
  (env.kindOf x = some .local ∧ m x = some u) ∨ ((env.kindOf x = some .cell ∨ env.kindOf x = some .free) ∧ ∃ c, env.cells.lookup x = some c ∧ h.IsCell c (some u))
structure Cx.Ok (X : Cx) : Prop where
  mod : Mod X.K X.mg X.base
  kind : X.env.scope.kind = .function
  glob : X.env.globals = mainGlobals
  blt : X.env.builtins = builtinsNs
  above : X.s₀.heap.objs.size ≤ X.env.locals
  inj : ∀ x y c, X.env.cells.lookup x = some c → X.env.cells.lookup y = some c → x = y
  has : ∀ x, (X.env.kindOf x = some .cell ∨ X.env.kindOf x = some .free) → ∃ c, X.env.cells.lookup x = some c
  cab : ∀ x c, X.fn x = true → X.env.cells.lookup x = some c → X.s₀.heap.objs.size ≤ c
  hd : X.calm = true → X.A.handled = none
  frames : X.A.frames = some X.stack
  stk : X.stack = X.outer ∨ (X.stack = X.env :: X.outer ∧ X.env.frame = some X.env.locals)
  exf : ∀ b ∈ X.ex, b ≠ X.env.locals ∧ ∀ x c, X.env.cells.lookup x = some c → c ≠ b
  bs : ∀ b o, X.base.get? b = some o → X.s₀.heap.get? b = some o ∧ X.H₀ b = none
  bsz : X.base.objs.size ≤ X.s₀.heap.objs.size
  noex : ∀ b o, X.base.get? b = some o → b ∉ X.ex
  exfs : ∀ b ∈ X.ex, b ∉ X.fs
  funs : X.s₀.heap.FunFrames X.base X.outer
  frf : ∀ b ∈ X.fs, X.H₀ b = none
structure Inv (X : Cx) (pins : List (Addr × Obj)) (σ : List (Option V)) (H : Hp) (s : Shared) : Prop where
  ok : X.Ok
  os : s.os = X.s₀.os
  bare : AllBare s.gens
  base : Un X.fs X.ex X.H₀ H X.s₀.heap s.heap
  loc : ∃ m, s.heap.Ns X.env.locals m ∧ ∀ (i : Nat) (x : Str) (v : V), X.N[i]? = some x → σ[i]? = some (some v) → Vis X.env.scope x → ∃ u, RelV v u ∧ Look X.env s.heap m x u
  cell : ∀ x c, X.env.cells.lookup x = some c → ∃ v, s.heap.IsCell c v
  free : H X.env.locals = none
  freeC : ∀ x c, X.env.cells.lookup x = some c → H c = none
  pin : ∀ p ∈ X.pn ++ pins, s.heap.get? p.1 = some p.2 ∧ H p.1 = none ∧ p.1 ≠ X.env.locals ∧ p.1 ∉ X.fs ∧ ∀ v, p.2.data ≠ .cell v
  hok : HOk X.prog X.w H s.heap
  len : σ.length = X.N.length
section
variable {X : Cx} {pins : List (Addr × Obj)} {σ : List (Option V)} {H H' : Hp} {s : Shared} {h' : Heap}
theorem Cx.Ok.nofr (ok : X.Ok) {b : Addr} {o : Obj} (e : X.base.get? b = some o) : b ∉ X.fs := fun hb => by
  have := (ok.funs.mem hb).1
  rw [e] at this; cases this
theorem Inv.bs (I : Inv X pins σ H s) : ∀ b o, X.base.get? b = some o → s.heap.get? b = some o ∧ H b = none := fun b o e =>
  ⟨I.base.keep b o (I.ok.bs b o e).1 (I.ok.bs b o e).2 (I.ok.nofr e) (I.ok.noex b o e), I.base.free b o (I.ok.bs b o e).1 (I.ok.bs b o e).2 (I.ok.noex b o e)⟩
theorem Inv.bk (I : Inv X pins σ H s) : ∀ b o, X.base.get? b = some o → s.heap.get? b = some o := fun b o e => (I.bs b o e).1
theorem Inv.mod (I : Inv X pins σ H s) : Mod X.K X.mg X.base := I.ok.mod
theorem Inv.kIn (I : Inv X pins σ H s) : X.K.In s.heap := I.ok.mod.kin.keeps I.bk
theorem Inv.nolimit (I : Inv X pins σ H s) : s.heap.NoLimit := I.ok.mod.nolimit.keeps I.bk
theorem Inv.fr (I : Inv X pins σ H s) : ∃ m, Fr X.base X.env.locals s.heap m :=
  let ⟨m, hn, _⟩ := I.loc
  ⟨m, hn, I.bk, Nat.le_trans I.ok.bsz I.ok.above⟩
theorem Inv.lt (I : Inv X pins σ H s) : X.env.locals < s.heap.objs.size := let ⟨_, hn, _⟩ := I.loc; hn.lt
theorem Inv.sz (I : Inv X pins σ H s) : X.s₀.heap.objs.size ≤ s.heap.objs.size := Nat.le_trans I.ok.above (Nat.le_of_lt I.lt)
theorem Inv.nofs (I : Inv X pins σ H s) {a : Addr} (h : s.heap.objs.size ≤ a) : a ∉ X.fs := fun hb => by
  obtain ⟨_, o, ho, _⟩ := I.ok.funs.mem hb
  exact absurd (Nat.lt_of_lt_of_le (Heap.lt_size ho) (Nat.le_trans I.sz h)) (Nat.lt_irrefl _)
theorem Inv.cne (I : Inv X pins σ H s) : ∀ x c, X.env.cells.lookup x = some c → c ≠ X.env.locals := fun x c e z => by
  obtain ⟨v, o, ho, hd⟩ := I.cell x c e
  obtain ⟨m, ⟨o', es, ep, ho', hd', _⟩, _⟩ := I.loc
  rw [z, ho'] at ho; cases ho; rw [hd'] at hd; cases hd
theorem Inv.funs (I : Inv X pins σ H s) : s.heap.FunFrames X.base X.outer := by
  have all : ∀ (l : List Env), (∀ b ∈ frs l, b ∈ X.fs) → X.s₀.heap.FunFrames X.base l → s.heap.FunFrames X.base l := by
    intro l
    induction l with
    | nil => intro _ _; trivial
    | cons env r ih =>
      intro hs hl
      obtain ⟨hk, ⟨L, o, hf, hn, ho, hd⟩, hr⟩ := hl
      have hL : L ∈ X.fs := hs L (by unfold frs; rw [List.filterMap_cons, hf]; exact List.mem_cons_self)
      obtain ⟨sl, e⟩ := I.base.slot L o ho (I.ok.frf L hL) hL fun z => I.ok.exfs L z hL
      exact ⟨hk, ⟨L, _, hf, hn, e, hd⟩, ih (fun b hb => hs b (by unfold frs; rw [List.filterMap_cons, hf]; exact List.mem_cons_of_mem _ hb)) hr⟩
  exact all X.outer (fun _ hb => hb) I.ok.funs
theorem Inv.stack (I : Inv X pins σ H s) : s.heap.FunFrames X.base X.stack := by
  rcases I.ok.stk with e | ⟨e, hf⟩
  · rw [e]; exact I.funs
  · rw [e]
    obtain ⟨m, hn, _⟩ := I.loc
    refine .cons (by rw [I.ok.kind]; decide) hf hn ?_ I.funs
    exact Heap.get?_none_of_le (Nat.le_trans I.ok.bsz I.ok.above)
theorem Inv.stkSub (I : Inv X pins σ H s) : ∀ b ∈ frs X.stack, b ∈ X.env.locals :: X.fs := fun b hb => by
  rcases I.ok.stk with e | ⟨e, hf⟩
  · rw [e] at hb; exact List.mem_cons_of_mem _ hb
  · rw [e] at hb
    unfold frs at hb
    rw [List.filterMap_cons, hf] at hb
    exact hb
theorem Inv.stkFree (I : Inv X pins σ H s) : ∀ b ∈ frs X.stack, H b = none := fun b hb => by
  rcases List.mem_cons.mp (I.stkSub b hb) with e | hb
  · rw [e]; exact I.free
  · obtain ⟨_, o, ho, _⟩ := I.ok.funs.mem hb
    exact I.base.free b o ho (I.ok.frf b hb) fun z => I.ok.exfs b z hb
theorem Inv.step {g' : Array GenState} {t' : Nat} {d' : Drawn} {ch : List Addr} (I : Inv X pins σ H s)
    (hch : ∀ b ∈ ch, (b ∈ X.ex ∨ X.s₀.heap.objs.size ≤ b) ∧ b ≠ X.env.locals ∧ (∀ x c, X.env.cells.lookup x = some c → c ≠ b) ∧ ∀ p ∈ X.pn ++ pins, p.1 ≠ b)
    (keep : ∀ b o, b ≠ X.env.locals → b ∉ X.fs → b ∉ ch → s.heap.get? b = some o → H b = none → h'.get? b = some o)
    (slot : ∀ b o, b ≠ X.env.locals → b ∈ X.fs → b ∉ ch → s.heap.get? b = some o → H b = none → ∃ sl, h'.get? b = some { o with slots := sl }) (free : ∀ b o, b ∉ ch → s.heap.get? b = some o → H b = none → H' b = none)
    (there : ∀ b o, b ∉ ch → s.heap.get? b = some o → ∃ o', h'.get? b = some o')
    (tups : ∀ b xs, H b = some (.tup xs) → H' b = some (.tup xs)) (frzs : ∀ b o u, H b = some (.frz o u) → H' b = some (.frz o u)) (tbls : ∀ b ps, H b = some (.tbl ps) → ∃ more, H' b = some (.tbl (ps ++ more)))
    (ns : ∀ m, s.heap.Ns X.env.locals m → h'.Ns X.env.locals m) (hok : HOk X.prog X.w H' h') (hg : AllBare g') :
    Inv X pins σ H' { s with heap := h', gens := g', drawn := d', toks := t' } := by
  have neL : ∀ b o, X.s₀.heap.get? b = some o → b ≠ X.env.locals := fun b o e => Nat.ne_of_lt (Nat.lt_of_lt_of_le (Heap.lt_size e) I.ok.above)
  have neC : ∀ b o, X.s₀.heap.get? b = some o → b ∉ X.ex → b ∉ ch := fun b o e hx hb => by
    rcases (hch b hb).1 with z | z
    · exact hx z
    · exact absurd (Nat.lt_of_lt_of_le (Heap.lt_size e) z) (Nat.lt_irrefl _)
  have cellK : ∀ x c, X.env.cells.lookup x = some c → ∀ v, s.heap.IsCell c v → h'.IsCell c v := fun x c e v ⟨o, ho, hd⟩ => by
    have nch : c ∉ ch := fun z => (hch c z).2.2.1 x c e rfl
    by_cases hc : c ∈ X.fs
    · obtain ⟨sl, q⟩ := slot c o (I.cne x c e) hc nch ho (I.freeC x c e)
      exact ⟨_, q, hd⟩
    · exact ⟨o, keep c o (I.cne x c e) hc nch ho (I.freeC x c e), hd⟩
  refine ⟨I.ok, I.os, hg, ⟨fun b o e n hb hx => ?_, fun b o e n hb hx => ?_, fun b o e n hx => ?_, fun b o e hx => ?_, fun b xs e => tups b xs (I.base.tups b xs e), fun b o xs e => frzs b o xs (I.base.frzs b o xs e), fun b ps e => ?_⟩, ?_, fun x c e => ?_, ?_, fun x c e => ?_, fun p hp => ?_, hok, I.len⟩
  · exact keep b o (neL b o e) hb (neC b o e hx) (I.base.keep b o e n hb hx) (I.base.free b o e n hx)
  · obtain ⟨sl, e1⟩ := I.base.slot b o e n hb hx
    obtain ⟨sl', e2⟩ := slot b _ (neL b o e) hb (neC b o e hx) e1 (I.base.free b o e n hx)
    exact ⟨sl', e2⟩
  · obtain ⟨o', e1⟩ := I.base.there b o e hx
    exact free b o' (neC b o e hx) e1 (I.base.free b o e n hx)
  · obtain ⟨o', e1⟩ := I.base.there b o e hx
    exact there b o' (neC b o e hx) e1
  · obtain ⟨m1, e1⟩ := I.base.tbls b ps e
    obtain ⟨m2, e2⟩ := tbls b _ e1
    exact ⟨m1 ++ m2, by rw [e2, Array.append_assoc]⟩
  · obtain ⟨m, hn, hl⟩ := I.loc
    refine ⟨m, ns m hn, fun i x v e1 e2 e3 => ?_⟩
    obtain ⟨u, r, l⟩ := hl i x v e1 e2 e3
    refine ⟨u, r, ?_⟩
    rcases l with l | ⟨k, c, e, z⟩
    · exact .inl l
    · exact .inr ⟨k, c, e, cellK x c e _ z⟩
  · obtain ⟨v, z⟩ := I.cell x c e
    exact ⟨v, cellK x c e v z⟩
  · obtain ⟨m, ⟨o, _, _, ho, _⟩, _⟩ := I.loc
    exact free _ o (fun z => (hch _ z).2.1 rfl) ho I.free
  · obtain ⟨v, o, ho, hd⟩ := I.cell x c e
    exact free c o (fun z => (hch c z).2.2.1 x c e rfl) ho (I.freeC x c e)
  · obtain ⟨e, n, ne, nf, d⟩ := I.pin p hp
    have nch : p.1 ∉ ch := fun z => (hch p.1 z).2.2.2 p hp rfl
    exact ⟨keep p.1 p.2 ne nf nch e n, free p.1 p.2 nch e n, ne, nf, d⟩
theorem Inv.un {t' : Nat} (I : Inv X pins σ H s) (u : Un X.fs [] H H' s.heap h') (hok : HOk X.prog X.w H' h') : Inv X pins σ H' { s with heap := h', toks := t' } := by
  obtain ⟨m, ⟨o, es, ep, ho, r⟩, _⟩ := id I.loc
  obtain ⟨sl, hL⟩ := u.any ho I.free (by simp)
  exact I.step (g' := s.gens) (d' := s.drawn) (ch := []) (fun _ z => nomatch z) (fun b o _ hb _ e n => u.keep b o e n hb (by simp)) (fun b o _ hb _ e n => u.slot b o e n hb (by simp)) (fun b o _ e n => u.free b o e n (by simp)) (fun b o _ e => u.there b o e (by simp)) u.tups u.frzs u.tbls (fun m' hm => by
    obtain ⟨o', es', ep', ho', r'⟩ := hm
    rw [ho] at ho'; cases ho'
    exact ⟨_, es', ep', hL, r'⟩) hok I.bare
theorem Inv.call {g' : Array GenState} {t' : Nat} {d' : Drawn} {ch : List Addr} (I : Inv X pins σ H s) (u : Un (frs X.stack) ch H H' s.heap h') (hok : HOk X.prog X.w H' h') (hg : AllBare g')
    (hch : ∀ b ∈ ch, (b ∈ X.ex ∨ X.s₀.heap.objs.size ≤ b) ∧ b ≠ X.env.locals ∧ (∀ x c, X.env.cells.lookup x = some c → c ≠ b) ∧ ∀ p ∈ X.pn ++ pins, p.1 ≠ b) :
    Inv X pins σ H' { s with heap := h', gens := g', drawn := d', toks := t' } := by
  obtain ⟨m, ⟨o, es, ep, ho, r⟩, _⟩ := id I.loc
  obtain ⟨sl, hL⟩ := u.any ho I.free fun z => (hch _ z).2.1 rfl
  exact I.step (ch := ch) hch (fun b o hL hb hc e n => u.keep b o e n (fun z => (List.mem_cons.mp (I.stkSub b z)).elim hL hb) hc) (fun b o _ _ hc e n => u.any e n hc) (fun b o hc e n => u.free b o e n hc) (fun b o hc e => u.there b o e hc) u.tups u.frzs u.tbls (fun m' hm => by
    obtain ⟨o', es', ep', ho', r'⟩ := hm
    rw [ho] at ho'; cases ho'
    exact ⟨_, es', ep', hL, r'⟩) hok hg
theorem Inv.turned {t' : Nat} {it : Addr} (I : Inv X pins σ H s) (k : ∀ b o, b ≠ it → s.heap.get? b = some o → h'.get? b = some o) (hn : H it = none) (hL : it ≠ X.env.locals)
    (h1 : it ∈ X.ex ∨ X.s₀.heap.objs.size ≤ it) (h2 : ∀ x c, X.env.cells.lookup x = some c → c ≠ it) (h3 : ∀ p ∈ X.pn ++ pins, p.1 ≠ it) : Inv X pins σ H { s with heap := h', toks := t' } := by
  have nit : ∀ b u, H b = some u → b ≠ it := fun b u e z => by rw [z, hn] at e; cases e
  refine I.step (g' := s.gens) (d' := s.drawn) (ch := [it]) (fun b hb => ?_) (fun b o _ _ hc e _ => k b o (fun z => hc (by simp [z])) e) (fun b o _ _ hc e _ => ⟨o.slots, k b o (fun z => hc (by simp [z])) e⟩) (fun _ _ _ _ n => n)
    (fun b o hc e => ⟨o, k b o (fun z => hc (by simp [z])) e⟩) (fun _ _ e => e) (fun _ _ _ e => e) (fun b ps e => ⟨#[], by rw [e]; simp⟩) (fun m hm => ?_) (fun b u e => ?_) I.bare
  · have e : b = it := by simpa using hb
    subst e
    exact ⟨h1, hL, h2, h3⟩
  · obtain ⟨o, es, ep, ho, r⟩ := hm
    exact ⟨o, es, ep, k _ o (Ne.symm hL) ho, r⟩
  · refine (I.hok b u e).stay (fun c v hc q => k c v ?_ q) (fun _ q => q) fun _ _ q => q
    rcases hc with z | z
    · rw [z]; exact nit b u e
    · exact nit c _ z
theorem Inv.tok (I : Inv X pins σ H s) (t : Nat) : Inv X pins σ H { s with toks := t } := I.un (h' := s.heap) (t' := t) Un.refl I.hok
theorem Inv.kept {t' : Nat} (I : Inv X pins σ H s) (k : ∀ b u, s.heap.get? b = some u → h'.get? b = some u) : Inv X pins σ H { s with heap := h', toks := t' } := I.un (Un.kept k) (I.hok.kept k)
theorem Inv.laid {a : Addr} {o : HO} {t' : Nat} (I : Inv X pins σ H s) (k : ∀ b u, s.heap.get? b = some u → h'.get? b = some u) (hp : s.heap.objs.size ≤ a) (new : ObjOk X.prog X.w (upd H a o) h' a o) :
    Inv X pins σ (upd H a o) { s with heap := h', toks := t' } := I.un (Un.laid k hp (I.hok.fresh hp)) (I.hok.laid k hp new)
theorem Inv.write {x e : Addr} {o : HO} {t' : Nat} (I : Inv X pins σ H s) (mu : Mut (H x)) (he : e = x ∨ H e = some (.own x)) (k : ∀ b u, b ≠ e → s.heap.get? b = some u → h'.get? b = some u) (heo : ∃ u, h'.get? e = some u)
    (new : ObjOk X.prog X.w (upd H x o) h' x o) : Inv X pins σ (upd H x o) { s with heap := h', toks := t' } := I.un (Un.write mu he k heo) (I.hok.write mu he k heo new)
theorem Inv.pins_of {pins' : List (Addr × Obj)} (I : Inv X pins σ H s) (h : ∀ p ∈ pins', s.heap.get? p.1 = some p.2 ∧ H p.1 = none ∧ p.1 ≠ X.env.locals ∧ p.1 ∉ X.fs ∧ ∀ v, p.2.data ≠ .cell v) : Inv X pins' σ H s :=
  ⟨I.ok, I.os, I.bare, I.base, I.loc, I.cell, I.free, I.freeC, fun p hp => (List.mem_append.mp hp).elim (fun z => I.pin p (List.mem_append_left _ z)) (h p), I.hok, I.len⟩
theorem nodup_ix {N : List Str} (hN : N.Nodup) {i j : Nat} {x : Str} (a : N[i]? = some x) (b : N[j]? = some x) : i = j := by
  obtain ⟨h1, e1⟩ := List.getElem?_eq_some_iff.mp a
  obtain ⟨h2, e2⟩ := List.getElem?_eq_some_iff.mp b
  exact (List.getElem_inj hN).mp (e1.trans e2.symm)
theorem store_ok2 {M : Model} {A : Around} {E : Value → Shared → Prop} {i : Nat} {x : Str} {v : V} {u : Value} {Q : Unit → Shared → Prop} (I : Inv X pins σ H s) (hN : X.N.Nodup) (hi : X.N[i]? = some x) (hx : Loc X.env.scope x) (r : RelV v u)
    (h : ∀ s', Inv X pins (σ.set i (some v)) H s' → (∃ a, Heap.SameBut a s.heap s'.heap ∧ (a = X.env.locals ∨ X.env.cells.lookup x = some a)) → Q () s') (hf : X.fn x = true ∨ X.env.scope.names.lookup x = some .local := by first | exact .inl rfl | exact .inr rfl | assumption) : wpAny M A (storeName X.env x u) Q E s := by
  obtain ⟨m, hn, hl⟩ := id I.loc
  have hcls : (X.env.scope.kind == .class || (X.env.scope.kind == .module && X.env.locals != X.env.globals)) = false := by rw [I.ok.kind]; rfl
  have hiσ : i < σ.length := by rw [I.len]; exact (List.getElem?_eq_some_iff.mp hi).1
  have cne := I.cne
  have tracked : ∀ {a : Addr} {h' : Heap}, (∃ o, s.heap.get? a = some o ∧ H a = none) → Heap.SameBut a s.heap h' → HOk X.prog X.w H h' := fun {a h'} ha hs b ob e => by
    obtain ⟨_, _, hfree⟩ := ha
    refine (I.hok b ob e).stay (fun c w' hc q => (hs.2 c ?_).trans q) (fun _ q => q) fun _ _ q => q
    rintro rfl
    rcases hc with rfl | hc
    · rw [hfree] at e; cases e
    · rw [hfree] at hc; cases hc
  rcases hx with hk | hk
  · refine wpAny_storeName_local hk hn (fun h' hn' hs => ?_) hcls
    obtain ⟨oL, _, _, hoL, _⟩ := id hn
    refine h _ ⟨I.ok, I.os, I.bare, ⟨fun b o e n hb hx => ?_, fun b o e n hb hx => ?_, I.base.free, fun b o e hx => ?_, I.base.tups, I.base.frzs, I.base.tbls⟩, ⟨_, hn', fun j y v' e1 e2 e3 => ?_⟩, fun y c e => ?_, I.free, I.freeC, fun p hp => ?_, tracked ⟨oL, hoL, I.free⟩ hs, by simpa using I.len⟩ ⟨_, hs, .inl rfl⟩
    · exact (hs.2 b (Nat.ne_of_lt (Nat.lt_of_lt_of_le (Heap.lt_size e) I.ok.above))).trans (I.base.keep b o e n hb hx)
    · obtain ⟨sl, e1⟩ := I.base.slot b o e n hb hx
      exact ⟨sl, (hs.2 b (Nat.ne_of_lt (Nat.lt_of_lt_of_le (Heap.lt_size e) I.ok.above))).trans e1⟩
    · obtain ⟨o', e1⟩ := I.base.there b o e hx
      exact ⟨o', (hs.2 b (Nat.ne_of_lt (Nat.lt_of_lt_of_le (Heap.lt_size e) I.ok.above))).trans e1⟩
    · by_cases hj : j = i
      · subst hj
        rw [hi] at e1; cases e1
        rw [List.getElem?_set_self hiσ] at e2
        cases e2
        exact ⟨u, r, .inl ⟨hk, by simp⟩⟩
      · rw [List.getElem?_set_ne (Ne.symm hj)] at e2
        obtain ⟨u', r', q⟩ := hl j y v' e1 e2 e3
        refine ⟨u', r', ?_⟩
        rcases q with ⟨k, e⟩ | ⟨k, c, e, z⟩
        · refine .inl ⟨k, ?_⟩
          have : y ≠ x := fun e => hj (nodup_ix hN e1 (e ▸ hi))
          simp [this, e]
        · exact .inr ⟨k, c, e, z.sameBut hs (cne y c e)⟩
    · obtain ⟨w', z⟩ := I.cell y c e
      exact ⟨w', z.sameBut hs (cne y c e)⟩
    · obtain ⟨e, n, ne, nf, d⟩ := I.pin p hp
      exact ⟨(hs.2 p.1 ne).trans e, n, ne, nf, d⟩
  · have hfn : X.fn x = true := by
      rcases hf with z | z
      · exact z
      · rw [z] at hk; cases hk
    obtain ⟨c, hc⟩ := I.ok.has x (.inl hk)
    obtain ⟨w', z⟩ := I.cell x c hc
    refine wpAny_storeName_cell I.ok.kind hk hc z (fun h' hc' hs => ?_)
    obtain ⟨oc, hoc, hocd⟩ := id z
    refine h { s with heap := h' } ⟨I.ok, I.os, I.bare, ⟨fun b o e n hb hx => ?_, fun b o e n hb hx => ?_, I.base.free, fun b o e hx => ?_, I.base.tups, I.base.frzs, I.base.tbls⟩, ⟨m, hn.sameBut hs (Ne.symm (cne x c hc)), fun j y v' e1 e2 e3 => ?_⟩, fun y c' e => ?_, I.free, I.freeC, fun p hp => ?_, tracked ⟨oc, hoc, I.freeC x c hc⟩ hs, by simpa using I.len⟩ ⟨c, hs, .inr hc⟩
    · exact (hs.2 b (Nat.ne_of_lt (Nat.lt_of_lt_of_le (Heap.lt_size e) (I.ok.cab x c hfn hc)))).trans (I.base.keep b o e n hb hx)
    · obtain ⟨sl, e1⟩ := I.base.slot b o e n hb hx
      exact ⟨sl, (hs.2 b (Nat.ne_of_lt (Nat.lt_of_lt_of_le (Heap.lt_size e) (I.ok.cab x c hfn hc)))).trans e1⟩
    · obtain ⟨o', e1⟩ := I.base.there b o e hx
      exact ⟨o', (hs.2 b (Nat.ne_of_lt (Nat.lt_of_lt_of_le (Heap.lt_size e) (I.ok.cab x c hfn hc)))).trans e1⟩
    · by_cases hj : j = i
      · subst hj
        rw [hi] at e1; cases e1
        rw [List.getElem?_set_self hiσ] at e2
        cases e2
        exact ⟨u, r, .inr ⟨.inl hk, c, hc, hc'⟩⟩
      · rw [List.getElem?_set_ne (Ne.symm hj)] at e2
        obtain ⟨u', r', q⟩ := hl j y v' e1 e2 e3
        refine ⟨u', r', ?_⟩
        rcases q with q | ⟨k, c', e, z'⟩
        · exact .inl q
        · refine .inr ⟨k, c', e, z'.sameBut hs ?_⟩
          rintro rfl
          exact hj (nodup_ix hN e1 (I.ok.inj _ _ _ e hc ▸ hi))
    · by_cases hcc : c' = c
      · subst hcc; exact ⟨_, hc'⟩
      · obtain ⟨w2, z2⟩ := I.cell y c' e
        exact ⟨w2, z2.sameBut hs hcc⟩
    · obtain ⟨e, n, ne, nf, d⟩ := I.pin p hp
      refine ⟨(hs.2 p.1 ?_).trans e, n, ne, nf, d⟩
      intro q
      rw [q, hoc] at e
      have q' : oc = p.2 := Option.some.inj e
      exact d w' (by rw [← q']; exact hocd)
theorem store_ok {M : Model} {A : Around} {E : Value → Shared → Prop} {i : Nat} {x : Str} {v : V} {u : Value} {Q : Unit → Shared → Prop} (I : Inv X pins σ H s) (hN : X.N.Nodup) (hi : X.N[i]? = some x) (hx : Loc X.env.scope x) (r : RelV v u)
    (h : ∀ s', Inv X pins (σ.set i (some v)) H s' → Q () s') (hf : X.fn x = true ∨ X.env.scope.names.lookup x = some .local := by first | exact .inl rfl | exact .inr rfl | assumption) : wpAny M A (storeName X.env x u) Q E s :=
  store_ok2 I hN hi hx r (fun s' I' _ => h s' I') hf
theorem Inv.call' {s' : Shared} {ch : List Addr} (I : Inv X pins σ H s) (ho : s'.os = s.os) (u : Un (frs X.stack) ch H H' s.heap s'.heap) (hok : HOk X.prog X.w H' s'.heap) (hg : AllBare s'.gens)
    (hch : ∀ b ∈ ch, (b ∈ X.ex ∨ X.s₀.heap.objs.size ≤ b) ∧ b ≠ X.env.locals ∧ (∀ x c, X.env.cells.lookup x = some c → c ≠ b) ∧ ∀ p ∈ X.pn ++ pins, p.1 ≠ b) : Inv X pins σ H' s' := by
  obtain ⟨h', g', d', t', o'⟩ := s'
  have e : o' = s.os := ho
  subst e
  exact I.call (g' := g') (t' := t') (d' := d') u hok hg hch
end
abbrev XK := Value → Option Addr → Hp → Prop
abbrev St := List (Option V)
abbrev VK := V → Hp → Prop
abbrev TE := St → Hp → VK → Prop
abbrev TT := St → Hp → (Bool → Hp → Prop) → Prop
abbrev TA := St → Hp → (List V → Hp → Prop) → Prop
structure Ends where
  nx : St → Hp → Prop
  rt : VK
  bk : St → Hp → Prop := fun _ _ => False
  ct : St → Hp → Prop := fun _ _ => False
abbrev TS := Ends → St → Hp → Prop
def EP (X : Cx) (pins : List (Addr × Obj)) (σ : St) (Q : VK) (u : Value) (s' : Shared) : Prop := ∃ v H', Inv X pins σ H' s' ∧ RelV v u ∧ Q v H'
def TP (X : Cx) (pins : List (Addr × Obj)) (σ : St) (Q : Bool → Hp → Prop) (b : Bool) (s' : Shared) : Prop := ∃ H', Inv X pins σ H' s' ∧ Q b H'
def AP (X : Cx) (pins : List (Addr × Obj)) (σ : St) (Q : List V → Hp → Prop) (us : List Value) (s' : Shared) : Prop := ∃ vs H', Inv X pins σ H' s' ∧ Vals vs us ∧ Q vs H'
def SP (X : Cx) (pins : List (Addr × Obj)) (D : Ends) (f : Flow) (s' : Shared) : Prop :=
  match f with
  | .next => ∃ σ' H', Inv X pins σ' H' s' ∧ D.nx σ' H'
  | .brk => ∃ σ' H', Inv X pins σ' H' s' ∧ D.bk σ' H'
  | .cont => ∃ σ' H', Inv X pins σ' H' s' ∧ D.ct σ' H'
  | .ret u => ∃ v σ' H', Inv X pins σ' H' s' ∧ RelV v u ∧ D.rt v H'
def PE (X : Cx) (e : Expr) (t : TE) : Prop :=
  ∀ (pins : List (Addr × Obj)) (s : Shared) (σ : St) (H : Hp) (Q : VK), Inv X pins σ H s → t σ H Q → wpAny (model X.prog X.w) X.A (eval e X.env) (EP X pins σ Q) X.xe s
def PT (X : Cx) (e : Expr) (t : TT) : Prop :=
  ∀ (pins : List (Addr × Obj)) (s : Shared) (σ : St) (H : Hp) (Q : Bool → Hp → Prop), Inv X pins σ H s → t σ H Q → wpAny (model X.prog X.w) X.A (isTrue e X.env (eval e X.env)) (TP X pins σ Q) X.xe s
def PW (X : Cx) (e : Expr) (t : TT) : Prop :=
  ∀ (whole : Sem Value) (pins : List (Addr × Obj)) (s : Shared) (σ : St) (H : Hp) (Q : Bool → Hp → Prop), Inv X pins σ H s → t σ H Q → wpAny (model X.prog X.w) X.A (isTrue e X.env whole) (TP X pins σ Q) X.xe s
theorem PW.pt {X : Cx} {e : Expr} {t : TT} (h : PW X e t) : PT X e t := h _
def PA (X : Cx) (es : List Expr) (t : TA) : Prop :=
  ∀ (pos : Pos) (pins : List (Addr × Obj)) (s : Shared) (σ : St) (H : Hp) (Q : List V → Hp → Prop), Inv X pins σ H s → t σ H Q → wpAny (model X.prog X.w) X.A (spliced (backTo pos (starEach es X.env))) (AP X pins σ Q) X.xe s
def PS (X : Cx) (st : Stmt) (t : TS) : Prop :=
  ∀ (pins : List (Addr × Obj)) (s : Shared) (σ : St) (H : Hp) (D : Ends), Inv X pins σ H s → t D σ H → wpAny (model X.prog X.w) X.A (exec st X.env) (SP X pins D) X.xe s
def PSs (X : Cx) (st : List Stmt) (t : TS) : Prop :=
  ∀ (pins : List (Addr × Obj)) (s : Shared) (σ : St) (H : Hp) (D : Ends), Inv X pins σ H s → t D σ H → wpAny (model X.prog X.w) X.A (execs st X.env) (SP X pins D) X.xe s
theorem thn {α : Type} {t : Sem α} {Q Q' : α → Shared → Prop} {M : Model} {A : Around} {E : Value → Shared → Prop} {s : Shared} (h : wpAny M A t Q E s) (hQ : ∀ a s, Q a s → Q' a s) : wpAny M A t Q' E s := wpAny_mono h hQ fun _ _ x => x
end L2
namespace L2
open PySem PySem.Spec PyProof.Rows
section
variable {X : Cx}
theorem bin {a b : Expr} {ta tb : TE} (ha : PE X a ta) (hb : PE X b tb) {pins : List (Addr × Obj)} {s : Shared} {σ : St} {H : Hp} {R : V → V → Hp → Prop} (I : Inv X pins σ H s) (h : ta σ H fun x H1 => tb σ H1 fun y H2 => R x y H2)
    {α : Type} {Q : α → Shared → Prop} {f : Value → Value → Sem α}
    (hf : ∀ v u s2 x y H2, Inv X pins σ H2 s2 → RelV x v → RelV y u → R x y H2 → wpAny (model X.prog X.w) X.A (f v u) Q X.xe s2) :
    wpAny (model X.prog X.w) X.A (eval a X.env) (fun v s₁ => wpAny (model X.prog X.w) X.A (eval b X.env) (fun u s₂ => wpAny (model X.prog X.w) X.A (f v u) Q X.xe s₂) X.xe s₁) X.xe s := by
  refine thn (ha pins s σ H _ I h) fun v s1 ⟨x, H1, I1, r1, q1⟩ => ?_
  refine thn (hb pins s1 σ H1 _ I1 q1) fun u s2 ⟨y, H2, I2, r2, q2⟩ => ?_
  exact hf v u s2 x y H2 I2 r1 r2 q2
def tVar (i : Nat) : TE := fun σ H Q => ∃ v, σ[i]? = some (some v) ∧ Q v H
def tC (v : V) : TE := fun _ H Q => Q v H
theorem pe_var {i : Nat} {x : Str} {pos : Pos} (hN : X.N[i]? = some x) (hv : Vis X.env.scope x) (hd : (x == ("__debug__" : Str)) = false := by decide) (hcd : (x == ("__classdict__" : Str)) = false := by decide) : PE X (.Name x pos) (tVar i) := by
  intro pins s σ H Q I h
  obtain ⟨v, e, h⟩ := h
  obtain ⟨m, hn, hl⟩ := I.loc
  obtain ⟨u, r, l⟩ := hl i x v hN e hv
  have fin : EP X pins σ Q u s := ⟨v, H, I, r, h⟩
  rcases l with ⟨hk, hm⟩ | ⟨hk, c, hc, hcell⟩
  · exact wpAny_Name (wpAny_loadName_local I.ok.kind hk hn hm fin) hd
  · rcases hk with hk | hk
    · exact wpAny_Name (wpAny_loadName_cell I.ok.kind hk hc hcell fin) hd
    · exact wpAny_Name (wpAny_loadName_free I.ok.kind hk hc hcell fin hcd) hd
theorem pe_int {i j pos} : PE X (.Constant (.int i) j pos) (tC (.int i)) := fun _ _ _ H _ I h => wpAny_Constant_int ⟨.int i, H, I.tok _, ⟨_, rfl⟩, h⟩
theorem pe_bl {b j pos} : PE X (.Constant (.bool b) j pos) (tC (.bl b)) := fun _ _ _ H _ I h => Constant_bool ⟨.bl b, H, I, rfl, h⟩
theorem pe_str {x j pos} : PE X (.Constant (.str x) j pos) (tC (.str x)) := fun _ _ _ H _ I h => Calls.Constant_str ⟨.str x, H, I.tok _, ⟨_, rfl⟩, h⟩
def Gl (X : Cx) (x : Str) : Prop := X.env.kindOf x = some .globalImplicit
theorem ld_glob {E : Value → Shared → Prop} {pins : List (Addr × Obj)} {s : Shared} {σ : St} {H : Hp} {x : Str} {u : Value} {pos : Pos} {Q : Value → Shared → Prop} (I : Inv X pins σ H s) (hg : Gl X x) (hm : X.mg x = some u) (h : Q u s)
    (hd : (x == ("__debug__" : Str)) = false := by decide) : wpAny (model X.prog X.w) X.A (eval (.Name x pos) X.env) Q E s :=
  Calls.Name_function_global I.ok.kind hg (Calls.loadGlobal_global (by rw [I.ok.glob]; exact I.mod.glob.keeps I.bk) hm h) hd
theorem ld_blt {E : Value → Shared → Prop} {pins : List (Addr × Obj)} {s : Shared} {σ : St} {H : Hp} {x : Str} {u : Value} {pos : Pos} {Q : Value → Shared → Prop} (I : Inv X pins σ H s) (hg : Gl X x) (hm : X.mg x = none) (hv : bootBuiltins x = some u) (h : Q u s)
    (hn : x ≠ "__name__" := by decide) (hd : (x == ("__debug__" : Str)) = false := by decide) : wpAny (model X.prog X.w) X.A (eval (.Name x pos) X.env) Q E s := by
  obtain ⟨mb, h1, h2⟩ := I.mod.blt
  exact Calls.Name_function_global I.ok.kind hg (Calls.loadGlobal_builtin (by rw [I.ok.glob]; exact I.mod.glob.keeps I.bk) hm (by rw [I.ok.blt]; exact h1.keeps I.bk) ((h2 x hn).trans hv) h) hd
theorem pe_glob {x : Str} {v : V} {u : Value} {pos : Pos} (hg : Gl X x) (hm : X.mg x = some u) (r : RelV v u) (hd : (x == ("__debug__" : Str)) = false := by decide) : PE X (.Name x pos) (tC v) :=
  fun _ _ _ H _ I h => ld_glob I hg hm ⟨v, H, I, r, h⟩ hd
theorem pe_bltn {x : Str} {v : V} {u : Value} {pos : Pos} (hg : Gl X x) (hm : X.mg x = none) (hv : bootBuiltins x = some u) (r : RelV v u) (hn : x ≠ "__name__" := by decide) (hd : (x == ("__debug__" : Str)) = false := by decide) : PE X (.Name x pos) (tC v) :=
  fun _ _ _ H _ I h => ld_blt I hg hm hv ⟨v, H, I, r, h⟩ hn hd
variable {a b : Expr} {ta tb : TE} {pos : Pos}
def tB (t : TE) : TT := fun σ H Q => t σ H fun x H1 => ∃ c, x = .bl c ∧ Q c H1
theorem pt_val {e : Expr} {t : TE} (h : PE X e t) (he : ∀ whole, isTrue e X.env whole = (do let v ← whole; standAt e.pos; holding [v] (truthy v)) := by intro _; rfl) : PT X e (tB t) := by
  intro pins s σ H Q I hw
  refine isTrue_plain (thn (h pins s σ H _ I hw) fun v s1 ⟨x, H1, I1, r1, q1⟩ => ?_) (he _)
  obtain ⟨d, rfl, q⟩ := q1
  cases r1
  exact wpAny_truthy_bool ⟨H1, I1, q⟩
variable {tA tB' : TT} {rest : List Expr}
def tAnd (t u : TT) : TT := fun σ H Q => t σ H fun c H1 => if c = true then u σ H1 Q else Q false H1
def tOr (t u : TT) : TT := fun σ H Q => t σ H fun c H1 => if c = true then Q true H1 else u σ H1 Q
def tNot (t : TT) : TT := fun σ H Q => t σ H fun c H1 => Q (!c) H1
theorem pw_and1 (ha : PT X a tA) : PW X (.BoolOp .And [a] pos) tA := by
  intro wh pins s σ H Q I h
  refine isTrue_and (thn (ha pins s σ H Q I h) fun c s1 e => ?_)
  cases c with
  | true => exact isTrue_and_nil e
  | false => exact e
theorem pw_or1 (ha : PT X a tA) : PW X (.BoolOp .Or [a] pos) tA := by
  intro wh pins s σ H Q I h
  refine isTrue_or (thn (ha pins s σ H Q I h) fun c s1 e => ?_)
  cases c with
  | false => exact isTrue_or_nil e
  | true => exact e
theorem pw_and (ha : PT X a tA) (hb : PW X (.BoolOp .And (b :: rest) pos) tB') : PW X (.BoolOp .And (a :: b :: rest) pos) (tAnd tA tB') := by
  intro wh pins s σ H Q I h
  refine isTrue_and (thn (ha pins s σ H _ I h) fun c s1 ⟨H1, I1, q1⟩ => ?_)
  cases c with
  | true => exact hb wh pins s1 σ H1 Q I1 q1
  | false => exact ⟨H1, I1, q1⟩
theorem pw_or (ha : PT X a tA) (hb : PW X (.BoolOp .Or (b :: rest) pos) tB') : PW X (.BoolOp .Or (a :: b :: rest) pos) (tOr tA tB') := by
  intro wh pins s σ H Q I h
  refine isTrue_or (thn (ha pins s σ H _ I h) fun c s1 ⟨H1, I1, q1⟩ => ?_)
  cases c with
  | true => exact ⟨H1, I1, q1⟩
  | false => exact hb wh pins s1 σ H1 Q I1 q1
theorem pt_not (ha : PT X a tA) : PT X (.UnaryOp .Not a pos) (tNot tA) := by
  intro pins s σ H Q I h
  exact isTrue_not (ha pins s σ H (fun c H1 => Q (!c) H1) I h)
def tAndV (ta tb : TE) : TE := fun σ H Q => ta σ H fun x H1 => ∃ c, x = .bl c ∧ if c = true then tb σ H1 Q else Q (.bl false) H1
def tOrV (ta tb : TE) : TE := fun σ H Q => ta σ H fun x H1 => ∃ c, x = .bl c ∧ if c = true then Q (.bl true) H1 else tb σ H1 Q
def tNotV (ta : TE) : TE := fun σ H Q => ta σ H fun x H1 => ∃ c, x = .bl c ∧ Q (.bl (!c)) H1
def tIf (t : TT) (ta tb : TE) : TE := fun σ H Q => t σ H fun c H1 => if c = true then ta σ H1 Q else tb σ H1 Q
end
end L2
namespace L2
open PySem PySem.Spec PyProof.Rows
def SqL (K : PySem.W.Frag) (H : Hp) (a : Addr) (xs : List V) : Prop :=
  Rd H a (.lst xs) ∨
    ∃ (o : Obj) (its : Array Value) (n : Nat), K.lookup a = some o ∧ o.cls = .type "list" ∧ o.dict = none ∧ o.data = .seq its n ∧ its.size ≤ sizeLine ∧ Vals xs its.toList
def SqT (K : PySem.W.Frag) (H : Hp) (a : Addr) (xs : List V) : Prop :=
  Rd H a (.tup xs) ∨
    ∃ (o : Obj) (its : Array Value) (n : Nat), K.lookup a = some o ∧ o.cls = .type "tuple" ∧ o.data = .seq its n ∧ its.size ≤ sizeLine ∧ Vals xs its.toList
def absV : Value → Option V
  | .none => some .non
  | .bool b => some (.bl b)
  | .int i _ => some (.int i)
  | .str x _ => some (.str x)
  | .bytes b _ => some (.byt b)
  | .float b _ => some (.flt b)
  | .ref a => some (.ref a)
  | .type n => some (.ty n)
  | _ => none
theorem RelV.abs {x : V} {u : Value} (r : RelV x u) : absV u = some x := by
  cases x with
  | non => cases r; rfl
  | bl _ => cases r; rfl
  | int _ => obtain ⟨t, rfl⟩ := r; rfl
  | str _ => obtain ⟨t, rfl⟩ := r; rfl
  | byt _ => obtain ⟨t, rfl⟩ := r; rfl
  | flt _ => obtain ⟨t, rfl⟩ := r; rfl
  | ref _ => cases r; rfl
  | ty _ => cases r; rfl
theorem RelV.inj {x y : V} {u : Value} (r : RelV x u) (q : RelV y u) : x = y := Option.some.inj (r.abs.symm.trans q.abs)
theorem Vals.inj : ∀ {xs ys : List V} {us : List Value}, Vals xs us → Vals ys us → xs = ys
  | _, _, _, .nil, .nil => rfl
  | _, _, _, .cons r t, .cons r' t' => by rw [r.inj r', Vals.inj t t']
section
variable {X : Cx} {pins : List (Addr × Obj)} {σ : St} {H : Hp} {s : Shared} {a : Addr} {xs ys : List V}
theorem SqL.of {K : PySem.W.Frag} (h : H a = some (.lst xs)) : SqL K H a xs := .inl (.inl h)
theorem SqT.of {K : PySem.W.Frag} (h : H a = some (.tup xs)) : SqT K H a xs := .inl (.inl h)
theorem Inv.list (I : Inv X pins σ H s) (h : SqL X.K H a xs) : ∃ its : List Value, Vals xs its ∧ PlainL s.heap a its.toArray ∧ xs.length ≤ sizeLine := by
  rcases h with h | ⟨o, its, n, hk, hc, hd, hs, hz, r⟩
  · obtain ⟨z, its, n, r, e⟩ := h.ok I.hok
    exact ⟨its, r, ⟨_, n, e, rfl, rfl, rfl⟩, z⟩
  · refine ⟨its.toList, r, ⟨o, n, I.kIn a o hk, hc, hd, by simpa using hs⟩, ?_⟩
    have e := r.length
    simp only [Array.length_toList] at e
    omega
theorem Inv.tuple (I : Inv X pins σ H s) (h : SqT X.K H a xs) : ∃ its : List Value, Vals xs its ∧ IsTup s.heap a its.toArray ∧ xs.length ≤ sizeLine := by
  rcases h with h | ⟨o, its, n, hk, hc, hs, hz, r⟩
  · obtain ⟨z, its, r, p⟩ := h.ok I.hok
    exact ⟨its, r, p.tup, z⟩
  · refine ⟨its.toList, r, ⟨o, I.kIn a o hk, hc, n, by simpa using hs⟩, ?_⟩
    have e := r.length
    simp only [Array.length_toList] at e
    omega
theorem Inv.list_inj (I : Inv X pins σ H s) (h : SqL X.K H a xs) (h' : SqL X.K H a ys) : xs = ys := by
  obtain ⟨its, r, ⟨o, n, e, _, _, d⟩, _⟩ := I.list h
  obtain ⟨its', r', ⟨o', n', e', _, _, d'⟩, _⟩ := I.list h'
  rw [e] at e'; cases e'
  rw [d] at d'
  injection d' with d1 _
  have : its = its' := by simpa using congrArg Array.toList d1
  subst this
  exact r.inj r'
theorem Inv.tuple_inj (I : Inv X pins σ H s) (h : SqT X.K H a xs) (h' : SqT X.K H a ys) : xs = ys := by
  obtain ⟨its, r, ⟨o, e, _, n, d⟩, _⟩ := I.tuple h
  obtain ⟨its', r', ⟨o', e', _, n', d'⟩, _⟩ := I.tuple h'
  rw [e] at e'; cases e'
  rw [d] at d'
  injection d' with d1 _
  have : its = its' := by simpa using congrArg Array.toList d1
  subst this
  exact r.inj r'
end
abbrev Cx.wish (X : Cx) (E : Value → Shared → Prop) : Cx := { X with xe := E }
abbrev Cx.nox (X : Cx) : Cx := X.wish fun _ _ => False
theorem Cx.Ok.wish {X : Cx} (ok : X.Ok) (E : Value → Shared → Prop) : (X.wish E).Ok :=
  ⟨ok.mod, ok.kind, ok.glob, ok.blt, ok.above, ok.inj, ok.has, ok.cab, ok.hd, ok.frames, ok.stk, ok.exf, ok.bs, ok.bsz, ok.noex, ok.exfs, ok.funs, ok.frf⟩
theorem Cx.Ok.unwish {X : Cx} {E : Value → Shared → Prop} (ok : (X.wish E).Ok) : X.Ok :=
  ⟨ok.mod, ok.kind, ok.glob, ok.blt, ok.above, ok.inj, ok.has, ok.cab, ok.hd, ok.frames, ok.stk, ok.exf, ok.bs, ok.bsz, ok.noex, ok.exfs, ok.funs, ok.frf⟩
section
variable {X : Cx} {pins : List (Addr × Obj)} {σ : St} {H : Hp} {s : Shared} {E : Value → Shared → Prop}
theorem Inv.wish (I : Inv X pins σ H s) (E : Value → Shared → Prop) : Inv (X.wish E) pins σ H s := ⟨I.ok.wish E, I.os, I.bare, I.base, I.loc, I.cell, I.free, I.freeC, I.pin, I.hok, I.len⟩
theorem Inv.unwish (I : Inv (X.wish E) pins σ H s) : Inv X pins σ H s := ⟨I.ok.unwish, I.os, I.bare, I.base, I.loc, I.cell, I.free, I.freeC, I.pin, I.hok, I.len⟩
theorem SP.unwish {D : Ends} {f : Flow} {s' : Shared} (h : SP (X.wish E) pins D f s') : SP X pins D f s' := by
  cases f with
  | next => obtain ⟨σ', H', I, q⟩ := h; exact ⟨σ', H', I.unwish, q⟩
  | brk => obtain ⟨σ', H', I, q⟩ := h; exact ⟨σ', H', I.unwish, q⟩
  | cont => obtain ⟨σ', H', I, q⟩ := h; exact ⟨σ', H', I.unwish, q⟩
  | ret u => obtain ⟨v, σ', H', I, r, q⟩ := h; exact ⟨v, σ', H', I.unwish, r, q⟩
theorem PE.nox {e : Expr} {t : TE} (h : PE X.nox e t) : PE X e t := fun pins s σ H Q I hw =>
  wpAny_mono (h pins s σ H Q (I.wish _) hw) (fun _ _ ⟨v, H', I', r, q⟩ => ⟨v, H', I'.unwish, r, q⟩) fun _ _ z => False.elim z
theorem PT.nox {e : Expr} {t : TT} (h : PT X.nox e t) : PT X e t := fun pins s σ H Q I hw =>
  wpAny_mono (h pins s σ H Q (I.wish _) hw) (fun _ _ ⟨H', I', q⟩ => ⟨H', I'.unwish, q⟩) fun _ _ z => False.elim z
theorem PSs.nox {st : List Stmt} {t : TS} (h : PSs X.nox st t) : PSs X st t := fun pins s σ H D I hw =>
  wpAny_mono (h pins s σ H D (I.wish _) hw) (fun _ _ q => q.unwish) fun _ _ z => False.elim z
end
section
variable {X : Cx} {st : Stmt} {rest : List Stmt} {t u : TS} {e : Expr} {te : TE} {pos : Pos}
def tNext : TS := fun D σ H => D.nx σ H
def tSeq (t u : TS) : TS := fun D σ H => t { D with nx := u D } σ H
theorem pss_nil : PSs X [] tNext := fun _ _ σ H _ I h => wpAny_execs_nil ⟨σ, H, I, h⟩
theorem pss_cons (h1 : PS X st t) (h2 : PSs X rest u) : PSs X (st :: rest) (tSeq t u) := by
  intro pins s σ H D I h
  refine wpAny_execs_cons (thn (h1 pins s σ H { D with nx := u D } I h) fun f s1 q => ?_)
  cases f with
  | next =>
    obtain ⟨σ', H', I', q⟩ := q
    exact h2 pins s1 σ' H' D I' q
  | ret v => exact q
  | brk => exact q
  | cont => exact q
theorem pss_one (h1 : PS X st t) : PSs X [st] t := by
  intro pins s σ H D I h
  refine wpAny_execs_cons (thn (h1 pins s σ H D I h) fun f s1 q => ?_)
  cases f with
  | next => exact wpAny_execs_nil q
  | ret v => exact q
  | brk => exact q
  | cont => exact q
theorem Inv.quiet {pins : List (Addr × Obj)} {σ : St} {H : Hp} {s : Shared} (I : Inv X pins σ H s) : interactive X.env = false := by simp [interactive, I.ok.kind]
def tDrop (te : TE) : TS := fun D σ H => te σ H fun _ H1 => D.nx σ H1
theorem ps_expr (he : PE X e te) (hs : swapsWith e none pos.line X.env = pure false := by rfl) : PS X (.Expr e pos) (tDrop te) := by
  intro pins s σ H D I h
  exact wpAny_Expr_any (thn (he pins s σ H _ I h) fun v s1 ⟨x, H1, I1, r1, q1⟩ => ⟨σ, H1, I1, q1⟩) I.quiet hs
def tRet (te : TE) : TS := fun D σ H => te σ H D.rt
theorem ps_ret (he : PE X e te) : PS X (.Return (some e) pos) (tRet te) := by
  intro pins s σ H D I h
  exact wpAny_Return_some (thn (he pins s σ H _ I h) fun v s1 ⟨x, H1, I1, r1, q1⟩ => ⟨x, σ, H1, I1, r1, q1⟩)
def tRetN : TS := fun D _ H => D.rt .non H
def tIfS (c : TT) (t u : TS) : TS := fun D σ H => c σ H fun b H1 => if b = true then t D σ H1 else u D σ H1
theorem ps_if {c : Expr} {a b : List Stmt} {tc : TT} (hc : PT X c tc) (ha : PSs X a t) (hb : PSs X b u) : PS X (.If c a b pos) (tIfS tc t u) := by
  intro pins s σ H D I h
  refine wpAny_If (thn (hc pins s σ H _ I h) fun d s1 ⟨H1, I1, q1⟩ => ?_)
  cases d with
  | true => exact ha pins s1 σ H1 D I1 q1
  | false => exact hb pins s1 σ H1 D I1 q1
end
abbrev TG := V → St → Hp → (St → Hp → Prop) → Prop
def PG (X : Cx) (target : Expr) (t : TG) : Prop :=
  ∀ (pins : List (Addr × Obj)) (s : Shared) (σ : St) (H : Hp) (v : V) (u : Value) (Q : St → Hp → Prop), Inv X pins σ H s → RelV v u → t v σ H Q →
    wpAny (model X.prog X.w) X.A (assign target X.env u) (fun _ s' => ∃ σ' H', Inv X pins σ' H' s' ∧ Q σ' H') X.xe s
abbrev TSet := V → V → V → Hp → (Hp → Prop) → Prop
def PSet (X : Cx) (t : TSet) : Prop :=
  ∀ (pins : List (Addr × Obj)) (s : Shared) (σ : St) (H : Hp) (o i v : V) (ov iv u : Value) (Q : Hp → Prop), Inv X pins σ H s → RelV o ov → RelV i iv → RelV v u → t o i v H Q →
    wpAny (model X.prog X.w) X.A (setItem ov iv u) (fun _ s' => ∃ H', Inv X pins σ H' s' ∧ Q H') X.xe s
section
variable {X : Cx} {pos : Pos}
def gName (i : Nat) : TG := fun v σ H Q => Q (σ.set i (some v)) H
theorem pg_name {i : Nat} {x : Str} (hN : X.N.Nodup) (hi : X.N[i]? = some x) (hx : Loc X.env.scope x) (hf : X.fn x = true ∨ X.env.scope.names.lookup x = some .local := by first | exact .inl rfl | exact .inr rfl | assumption) : PG X (.Name x pos) (gName i) := by
  intro pins s σ H v u Q I r h
  exact wpAny_assign_Name (store_ok I hN hi hx r (fun s' I' => ⟨_, H, I', h⟩) hf)
def gSub (to ti : TE) (t : TSet) : TG := fun v σ H Q => to σ H fun o H1 => ti σ H1 fun i H2 => t o i v H2 fun H3 => Q σ H3
theorem pg_sub {o i : Expr} {to ti : TE} {t : TSet} (ho : PE X o to) (hi : PE X i ti) (hs : PSet X t)
    (ha : ∀ v, assign (.Subscript o i pos) X.env v = (do
      let ov ← holding [v] (eval o X.env)
      let iv ← holding [v, ov] (eval i X.env)
      standAt pos
      holding [v, ov, iv] (setItem ov iv v)
      release [v, ov, iv] []) := by intro _; rfl) : PG X (.Subscript o i pos) (gSub to ti t) := by
  intro pins s σ H v u Q I r h
  rw [ha]
  refine wpAny_bind (wpAny_holding (thn (ho pins s σ H _ I h) fun ov s1 ⟨x, H1, I1, r1, q1⟩ => ?_))
  refine wpAny_bind (wpAny_holding (thn (hi pins s1 σ H1 _ I1 q1) fun iv s2 ⟨y, H2, I2, r2, q2⟩ => ?_))
  refine wpAny_bind (wpAny_standAt (wpAny_bind (wpAny_holding (thn (hs pins s2 σ H2 x y v ov iv u _ I2 r1 r2 r q2) fun _ s3 ⟨H3, I3, q3⟩ => ?_))))
  exact wpAny_release ⟨σ, H3, I3, q3⟩
def tAsg (te : TE) (g : TG) : TS := fun D σ H => te σ H fun x H1 => g x σ H1 D.nx
theorem ps_asg {tg e : Expr} {te : TE} {g : TG} (he : PE X e te) (hg : PG X tg g) (hs : swapsWithSole [tg] e pos.line X.env = pure false := by rfl) (hw : swappedStores [tg] e X.env = pure none := by rfl)
    (h1 : (assignEach [tg] X.env).map (·.2) = [assign tg X.env] := by rfl) : PS X (.Assign [tg] e pos) (tAsg te g) := by
  intro pins s σ H D I h
  refine wpAny_Assign_stores (thn (he pins s σ H _ I h) fun v s1 ⟨x, H1, I1, r1, q1⟩ => ?_) hs hw
  rw [h1]
  exact thn (hg pins s1 σ H1 x v _ I1 r1 q1) fun _ s2 q => q
theorem ps_set {i : Nat} {x : Str} {e : Expr} {te : TE} {pos' : Pos} (hN : X.N.Nodup) (hi : X.N[i]? = some x) (hx : Loc X.env.scope x) (he : PE X e te) (hs : swapsWith e (some (.Name x pos')) pos.line X.env = pure false := by rfl) (hf : X.fn x = true ∨ X.env.scope.names.lookup x = some .local := by first | exact .inl rfl | exact .inr rfl | assumption) :
    PS X (.Assign [.Name x pos'] e pos) (tAsg te (gName i)) := by
  intro pins s σ H D I h
  refine wpAny_Assign_Name (thn (he pins s σ H _ I h) fun v s1 ⟨y, H1, I1, r1, q1⟩ => ?_) hs
  exact store_ok I1 hN hi hx r1 (fun s2 I2 => ⟨_, H1, I2, q1⟩) hf
end
section
variable {X : Cx} {pos : Pos}
def tWhile (c : TT) (tb : TS) : TS := fun D σ H => ∃ W : Nat → St → Hp → Prop, (∃ m, W m σ H) ∧ ∀ m σ H, W m σ H →
  c σ H fun b H1 => if b = true then ∃ N : St → Hp → Prop, (∀ σ' H', N σ' H' → ∃ m', m' < m ∧ W m' σ' H') ∧ tb { D with nx := N, ct := N, bk := D.nx } σ H1 else D.nx σ H1
theorem ps_while {c : Expr} {body : List Stmt} {tc : TT} {tb : TS} (hp : PassesOwn (model X.prog X.w) X.A X.env X.xe) (hc : PT X c tc) (hb : PSs X body tb) : PS X (.While c body [] pos) (tWhile tc tb) := by
  intro pins s σ H D I h
  obtain ⟨W, ⟨m0, w0⟩, turn⟩ := h
  refine wpAny_While (codeAny_whileLoop (fun n s' => ∃ σ' H', Inv X pins σ' H' s' ∧ W n σ' H') ?_ m0 ⟨σ, H, I, w0⟩)
  rintro n s1 ⟨σ1, H1, I1, w1⟩
  refine wpAny_passesOwn hp (thn (hc pins s1 σ1 H1 _ I1 (turn n σ1 H1 w1)) fun b s2 ⟨H2, I2, q2⟩ => ?_)
  cases b with
  | true =>
    obtain ⟨N, hN, q2⟩ := q2
    rw [if_pos rfl]
    refine wpAny_passesOwn hp (thn (hb pins s2 σ1 H2 _ I2 q2) fun f s3 q3 => ?_)
    cases f with
    | next =>
      obtain ⟨σ3, H3, I3, n3⟩ := q3
      obtain ⟨m', hm, w3⟩ := hN σ3 H3 n3
      exact ⟨m', hm, σ3, H3, I3, w3⟩
    | cont =>
      obtain ⟨σ3, H3, I3, n3⟩ := q3
      obtain ⟨m', hm, w3⟩ := hN σ3 H3 n3
      exact ⟨m', hm, σ3, H3, I3, w3⟩
    | brk => exact q3
    | ret v => exact q3
  | false =>
    rw [if_neg Bool.false_ne_true]
    exact wpAny_execs_nil ⟨σ1, H2, I2, q2⟩
end
structure It where
  go : Nat → Hp → Prop
  yld : Nat → Hp → V → Hp → Prop
  stop : Nat → Hp → Prop
def FpOk (X : Cx) (pins : List (Addr × Obj)) (H : Hp) (b : Addr) : Prop :=
  H b = none ∧ b ≠ X.env.locals ∧ b ∉ X.fs ∧ (b ∈ X.ex ∨ X.s₀.heap.objs.size ≤ b) ∧ (∀ x c, X.env.cells.lookup x = some c → c ≠ b) ∧ ∀ p ∈ X.pn ++ pins, p.1 ≠ b
theorem Inv.fpOk {X : Cx} {pins : List (Addr × Obj)} {σ : St} {H H' : Hp} {s : Shared} {b : Addr} (I : Inv X pins σ H s) (hb : s.heap.objs.size ≤ b) (hn : H' b = none) : FpOk X pins H' b := by
  refine ⟨hn, Nat.ne_of_gt (Nat.lt_of_lt_of_le I.lt hb), I.nofs hb, .inr (Nat.le_trans I.sz hb), fun x c e z => ?_, fun p hp z => ?_⟩
  · obtain ⟨v, q⟩ := I.cell x c e
    exact absurd (Nat.lt_of_lt_of_le q.lt (by rw [z]; exact hb)) (Nat.lt_irrefl _)
  · exact absurd (Nat.lt_of_lt_of_le (Heap.lt_size (I.pin p hp).1) (by rw [z]; exact hb)) (Nat.lt_irrefl _)
structure Turn (P : Program) (w : World) (K : PySem.W.Frag) (tg : Expr) (J : It) (fp : List Addr) (it : Addr) (tn : Nat → Heap → Prop) : Prop where
  mem : it ∈ fp
  obj : ∀ i h, tn i h → ∀ b ∈ fp, ∃ o, h.get? b = some o ∧ ∀ v, o.data ≠ .cell v
  keep : ∀ i h h', tn i h → (∀ b ∈ fp, ∀ o, h.get? b = some o → h'.get? b = some o) → tn i h'
  item : ∀ (X : Cx), X.prog = P → X.w = w → X.K = K → X.calm = true → ∀ (i : Nat) (pins : List (Addr × Obj)) (s : Shared) (σ : St) (H : Hp) (E : Value → Shared → Prop), Inv X pins σ H s → (∀ b ∈ fp, FpOk X pins H b) → tn i s.heap → J.go i H →
    wpAny (model P w) X.A (pyNext (.ref it)) (fun r s1 => ∃ u, r = some u ∧
      wpAny (model P w) X.A (letOwnedTupleGo tg (.ref it) u) (fun _ s2 => ∃ x H', Inv X pins σ H' s2 ∧ RelV x u ∧ J.yld i H x H' ∧ tn (i + 1) s2.heap ∧ ∀ b ∈ fp, H' b = none) E s1) E s
  done : ∀ (X : Cx), X.prog = P → X.w = w → X.K = K → X.calm = true → ∀ (i : Nat) (pins : List (Addr × Obj)) (s : Shared) (σ : St) (H : Hp) (E : Value → Shared → Prop), Inv X pins σ H s → (∀ b ∈ fp, FpOk X pins H b) → tn i s.heap → J.stop i H →
    wpAny (model P w) X.A (pyNext (.ref it)) (fun r s1 => r = none ∧ Inv X pins σ H s1) E s
  self : ∀ (A : Around) (i : Nat) (s : Shared) (Q : Value → Shared → Prop) (E : Value → Shared → Prop), tn i s.heap → Q (.ref it) s → wpAny (model P w) A (pyIter (.ref it)) Q E s
abbrev TI := St → Hp → (It → Hp → Prop) → Prop
def PIE (X : Cx) (pins : List (Addr × Obj)) (σ : St) (tg : Expr) (R : It → Hp → Prop) (itv : Value) (s2 : Shared) : Prop :=
  ∃ (it : Addr) (fp : List Addr) (tn : Nat → Heap → Prop) (J : It) (H' : Hp), itv = .ref it ∧ Inv X pins σ H' s2 ∧ Turn X.prog X.w X.K tg J fp it tn ∧ tn 0 s2.heap ∧ (∀ b ∈ fp, FpOk X pins H' b) ∧ R J H'
def PI (X : Cx) (tg iter : Expr) (wi : TI) : Prop :=
  ∀ (pins : List (Addr × Obj)) (s : Shared) (σ : St) (H : Hp) (R : It → Hp → Prop), Inv X pins σ H s → wi σ H R →
    wpAny (model X.prog X.w) X.A (eval iter X.env) (fun v s1 => wpAny (model X.prog X.w) X.A (pyIter v) (PIE X pins σ tg R) X.xe s1) X.xe s
theorem go_of {M : Model} {A : Around} {E : Value → Shared → Prop} {s : Shared} {tg : Expr} {it : Addr} {u : Value} {o : Obj} {n : String} {vs : Array Value} {Q : Unit → Shared → Prop} (ho : s.heap.get? it = some o) (hc : o.cls = .type n) (hd : o.data = .fields vs)
    (hn : ["enumerate", "zip", "dict_itemiterator", "dict_reverseitemiterator", "odict_iterator", "itertools.zip_longest", "itertools.pairwise"].contains n = false) (hQ : Q () s) : wpAny M A (letOwnedTupleGo tg (.ref it) u) Q E s := by
  unfold letOwnedTupleGo
  cases tg <;> first
    | exact wpAny_pure hQ
    | (cases u <;> first
        | exact wpAny_pure hQ
        | (refine wpAny_bind (wpAny_load ho ?_)
           rw [hc, hd]
           show wpAny M A (if (["enumerate", "zip", "dict_itemiterator", "dict_reverseitemiterator", "odict_iterator", "itertools.zip_longest", "itertools.pairwise"].contains n && vs[0]? == some (rawInt _)) = true then _ else _) Q E s
           rw [if_neg (by intro h; rw [hn, Bool.false_and] at h; cases h)]
           exact wpAny_pure hQ))
def Itl (K : PySem.W.Frag) (a : Addr) : It :=
  ⟨fun i H => ∃ xs x, SqL K H a xs ∧ xs[i]? = some x, fun i H x H' => H' = H ∧ ∀ xs, SqL K H a xs → xs[i]? = some x, fun i H => ∃ xs, SqL K H a xs ∧ xs.length ≤ i⟩
def Itt (K : PySem.W.Frag) (a : Addr) : It :=
  ⟨fun i H => ∃ xs x, SqT K H a xs ∧ xs[i]? = some x, fun i H x H' => H' = H ∧ ∀ xs, SqT K H a xs → xs[i]? = some x, fun i H => ∃ xs, SqT K H a xs ∧ xs.length ≤ i⟩
def Itr (lo : Int) (n : Nat) : It := ⟨fun i _ => i < n, fun i H x H' => H' = H ∧ x = .int (lo + i), fun i _ => n ≤ i⟩
theorem turn_list {P : Program} {w : World} {K : PySem.W.Frag} {tg : Expr} (a it : Addr) : Turn P w K tg (Itl K a) [it] it (fun i h => h.IsListIter it a i) where
  mem := by simp
  obj := fun i h st b hb => by
    have e : b = it := by simpa using hb
    subst e
    obtain ⟨o, e, c, d⟩ := st
    exact ⟨o, e, fun v z => by rw [d] at z; cases z⟩
  keep := fun i h h' st k => st.at fun o e => k it (by simp) o e
  item := by
    intro X hP hw hK hc i pins s σ H E I hf st hg
    subst hP hw hK
    obtain ⟨xs, x, hq, hx⟩ := hg
    obtain ⟨its, rv, p, hz⟩ := I.list hq
    obtain ⟨u, hu, ru⟩ := rv.get hx
    obtain ⟨f0, f1, f2, f3, f4, f5⟩ := hf it (by simp)
    refine wpAny_pyNext_list_item st p.isList (x := u) (by simpa using hu) fun h' st' sb => ?_
    have I1 : Inv X pins σ H { s with heap := h' } := I.turned (t' := s.toks) (fun b o hb e => (sb.2 b hb).trans e) f0 f1 f3 f4 f5
    obtain ⟨o, e, c, d⟩ := id st'
    exact ⟨u, rfl, go_of (s := { s with heap := h' }) e c d (by decide) ⟨x, H, I1, ru, ⟨rfl, fun ys hy => by rw [I.list_inj hy hq]; exact hx⟩, st', fun b hb => (hf b hb).1⟩⟩
  done := by
    intro X hP hw hK hc i pins s σ H E I hf st hg
    subst hP hw hK
    obtain ⟨xs, hq, hx⟩ := hg
    obtain ⟨its, rv, p, hz⟩ := I.list hq
    obtain ⟨f0, f1, f2, f3, f4, f5⟩ := hf it (by simp)
    have hl := rv.length
    exact wpAny_pyNext_list_end (I.ok.hd hc) st p.isList (by simp; omega) fun h' eb => ⟨rfl, I.turned (t' := s.toks) (fun b o hb e => eb b o hb e) f0 f1 f3 f4 f5⟩
  self := fun _ _ _ _ _ st h => wpAny_pyIter_listiter st h
theorem turn_tuple {P : Program} {w : World} {K : PySem.W.Frag} {tg : Expr} (a it : Addr) : Turn P w K tg (Itt K a) [it] it (fun i h => h.IsTupleIter it a i) where
  mem := by simp
  obj := fun i h st b hb => by
    have e : b = it := by simpa using hb
    subst e
    obtain ⟨o, e, c, d⟩ := st
    exact ⟨o, e, fun v z => by rw [d] at z; cases z⟩
  keep := fun i h h' st k => st.at fun o e => k it (by simp) o e
  item := by
    intro X hP hw hK hc i pins s σ H E I hf st hg
    subst hP hw hK
    obtain ⟨xs, x, hq, hx⟩ := hg
    obtain ⟨its, rv, p, hz⟩ := I.tuple hq
    obtain ⟨u, hu, ru⟩ := rv.get hx
    obtain ⟨f0, f1, f2, f3, f4, f5⟩ := hf it (by simp)
    refine wpAny_pyNext_tuple_item st (show s.heap.IsTuple a its.toArray from p) (x := u) (by simpa using hu) fun h' st' sb => ?_
    have I1 : Inv X pins σ H { s with heap := h' } := I.turned (t' := s.toks) (fun b o hb e => (sb.2 b hb).trans e) f0 f1 f3 f4 f5
    obtain ⟨o, e, c, d⟩ := id st'
    exact ⟨u, rfl, go_of (s := { s with heap := h' }) e c d (by decide) ⟨x, H, I1, ru, ⟨rfl, fun ys hy => by rw [I.tuple_inj hy hq]; exact hx⟩, st', fun b hb => (hf b hb).1⟩⟩
  done := by
    intro X hP hw hK hc i pins s σ H E I hf st hg
    subst hP hw hK
    obtain ⟨xs, hq, hx⟩ := hg
    obtain ⟨its, rv, p, hz⟩ := I.tuple hq
    obtain ⟨f0, f1, f2, f3, f4, f5⟩ := hf it (by simp)
    have hl := rv.length
    exact wpAny_pyNext_tuple_end (I.ok.hd hc) st (show s.heap.IsTuple a its.toArray from p) (by simp; omega) fun h' eb => ⟨rfl, I.turned (t' := s.toks) (fun b o hb e => eb b o hb e) f0 f1 f3 f4 f5⟩
  self := fun _ _ _ _ _ st h => wpAny_pyIter_tupleiter st h
theorem turn_range {P : Program} {w : World} {K : PySem.W.Frag} {tg : Expr} (it : Addr) (lo : Int) (n : Nat) : Turn P w K tg (Itr lo n) [it] it (fun i h => IsRangeIter h it (lo + (i : Nat) * 1) ((n : Int) - (i : Nat)) 1) where
  mem := by simp
  obj := fun i h st b hb => by
    have e : b = it := by simpa using hb
    subst e
    exact ⟨_, st, fun v z => by
      have z' : Data.fields _ = Data.cell v := z
      cases z'⟩
  keep := fun i h h' st k => k it (by simp) _ st
  item := by
    intro X hP hw hK hc i pins s σ H E I hf st hg
    subst hP hw hK
    obtain ⟨f0, f1, f2, f3, f4, f5⟩ := hf it (by simp)
    have W := Walks.range (prog := X.prog) (w := X.w) (I.ok.hd hc) it lo 1 n
    refine W.item i s _ _ hg st fun v h' tk hv st' kk => ?_
    obtain ⟨t, rfl⟩ := hv
    have I1 : Inv X pins σ H { s with heap := h', toks := tk } := I.turned (fun b o hb e => kk b o (by simpa using hb) e) f0 f1 f3 f4 f5
    refine ⟨_, rfl, go_of (s := { s with heap := h', toks := tk }) (n := "range_iterator") st' rfl rfl (by decide) ⟨.int (lo + i), H, I1, ⟨t, ?_⟩, ⟨rfl, rfl⟩, st', fun b hb => (hf b hb).1⟩⟩
    rw [Int.mul_one]
  done := by
    intro X hP hw hK hc i pins s σ H E I hf st hg
    subst hP hw hK
    obtain ⟨f0, f1, f2, f3, f4, f5⟩ := hf it (by simp)
    exact wpAny_pyNext_range_end (I.ok.hd hc) st (by have : n ≤ i := hg; omega) fun h' eb => ⟨rfl, I.turned (t' := s.toks) (fun b o hb e => eb b o hb e) f0 f1 f3 f4 f5⟩
  self := fun _ _ _ _ _ st h => wpAny_pyIter_rangeiter st h
end L2
namespace L2
open PySem PySem.Spec PyProof.Rows
section
variable {X : Cx} {tg : Expr}
def iList (K : PySem.W.Frag) (tl : TE) : TI := fun σ H R => tl σ H fun x H1 => ∃ a, x = .ref a ∧ (∃ xs, SqL K H1 a xs) ∧ R (Itl K a) H1
def iTup (K : PySem.W.Frag) (tl : TE) : TI := fun σ H R => tl σ H fun x H1 => ∃ a, x = .ref a ∧ (∃ xs, SqT K H1 a xs) ∧ R (Itt K a) H1
theorem pi_list {l : Expr} {tl : TE} (hl : PE X l tl) : PI X tg l (iList X.K tl) := by
  intro pins s σ H R I h
  refine thn (hl pins s σ H _ I h) fun v s1 ⟨x, H1, I1, r1, q1⟩ => ?_
  obtain ⟨a, e, ⟨xs, hq⟩, q⟩ := q1
  subst e
  cases r1
  obtain ⟨its, rv, p, hz⟩ := I1.list hq
  refine wpAny_pyIter_list p.isList ?_
  refine ⟨s1.heap.objs.size, [s1.heap.objs.size], _, _, H1, rfl, I1.kept (t' := s1.toks) fun b o e => Heap.get?_push_of_some _ e, turn_list a _, ⟨_, Heap.get?_push_size _ rfl, rfl, rfl⟩, fun b hb => ?_, q⟩
  have e : b = s1.heap.objs.size := by simpa using hb
  subst e
  exact I1.fpOk (Nat.le_refl _) (I1.hok.fresh (Nat.le_refl _))
theorem pi_tup {l : Expr} {tl : TE} (hl : PE X l tl) : PI X tg l (iTup X.K tl) := by
  intro pins s σ H R I h
  refine thn (hl pins s σ H _ I h) fun v s1 ⟨x, H1, I1, r1, q1⟩ => ?_
  obtain ⟨a, e, ⟨xs, hq⟩, q⟩ := q1
  subst e
  cases r1
  obtain ⟨its, rv, p, hz⟩ := I1.tuple hq
  refine wpAny_pyIter_tuple (show s1.heap.IsTuple a its.toArray from p) ?_
  refine ⟨s1.heap.objs.size, [s1.heap.objs.size], _, _, H1, rfl, I1.kept (t' := s1.toks) fun b o e => Heap.get?_push_of_some _ e, turn_tuple a _, ⟨_, Heap.get?_push_size _ rfl, rfl, rfl⟩, fun b hb => ?_, q⟩
  have e : b = s1.heap.objs.size := by simpa using hb
  subst e
  exact I1.fpOk (Nat.le_refl _) (I1.hok.fresh (Nat.le_refl _))
theorem range_it {pins : List (Addr × Obj)} {σ : St} {H : Hp} {s : Shared} {R : It → Hp → Prop} {E : Value → Shared → Prop} {lo hi : Int} {t u v : Tok} {tk : Nat} (I : Inv X pins σ H s) (h1 : -(2 ^ 62) ≤ lo) (h2 : lo < 2 ^ 62) (h3 : -(2 ^ 62) ≤ hi) (h4 : hi < 2 ^ 62)
    (q : R (Itr lo (hi - lo).toNat) H) : wpAny (model X.prog X.w) X.A (pyIter (.ref s.heap.objs.size)) (PIE X pins σ tg R) E { s with heap := s.heap.push { cls := .type "range", data := .fields #[.int lo t, .int hi u, .int 1 v] }, toks := tk } := by
  refine wpAny_pyIter_range (IsRange.new ..) (small_one h1 h2 h3 h4) ?_
  have I1 : Inv X pins σ H { s with heap := s.heap.push { cls := .type "range", data := .fields #[.int lo t, .int hi u, .int 1 v] }, toks := tk } := I.kept fun b o e => Heap.get?_push_of_some _ e
  refine ⟨(s.heap.push { cls := .type "range", data := .fields #[.int lo t, .int hi u, .int 1 v] }).objs.size, [(s.heap.push { cls := .type "range", data := .fields #[.int lo t, .int hi u, .int 1 v] }).objs.size], _, _, H, rfl,
    I1.kept (t' := tk) fun b o e => Heap.get?_push_of_some _ e, turn_range _ lo (hi - lo).toNat, ?_, fun b hb => ?_, q⟩
  · have e1 : lo + ((0 : Nat) : Int) * 1 = lo := by simp
    have e2 : (((hi - lo).toNat : Nat) : Int) - ((0 : Nat) : Int) = Builtin.Range.rangeSize lo hi 1 := by rw [rangeSize_one]; split <;> omega
    show IsRangeIter _ _ (lo + ((0 : Nat) : Int) * 1) ((((hi - lo).toNat : Nat) : Int) - ((0 : Nat) : Int)) 1
    rw [e1, e2]
    exact Heap.get?_push_size _ rfl
  · have e : b = (s.heap.push { cls := .type "range", data := .fields #[.int lo t, .int hi u, .int 1 v] }).objs.size := by simpa using hb
    subst e
    exact I1.fpOk (Nat.le_refl _) (I1.hok.fresh (Nat.le_refl _))
def iRng1 (ta : TA) : TI := fun σ H R => ta σ H fun vs H1 => ∃ j : Int, vs = [.int j] ∧ -(2 ^ 62) ≤ j ∧ j < 2 ^ 62 ∧ R (Itr 0 j.toNat) H1
def iRng2 (ta : TA) : TI := fun σ H R => ta σ H fun vs H1 => ∃ i j : Int, vs = [.int i, .int j] ∧ (-(2 ^ 62) ≤ i ∧ i < 2 ^ 62 ∧ -(2 ^ 62) ≤ j ∧ j < 2 ^ 62) ∧ R (Itr i (j - i).toNat) H1
theorem pi_range1 {a : Expr} {ta : TA} {p pos : Pos} (hg : Gl X "range") (hm : X.mg "range" = none) (ha : PA X [a] ta) (hs : starEach [a] X.env = [(false, eval a X.env)] := by rfl) : PI X tg (.Call (.Name "range" p) [a] [] pos) (iRng1 ta) := by
  intro pins s σ H R I h
  refine Call_ (ld_blt I hg hm boot_range (PyProof.Rows.callWith_type1 (thn (ha pos pins s σ H _ I h) fun us s1 ⟨vs, H1, I1, r1, q1⟩ => ?_) hs rfl))
  obtain ⟨j, e, q1, q2, q⟩ := q1
  subst e
  cases r1 with
  | cons r rr =>
    cases rr
    obtain ⟨t, rfl⟩ := r
    exact call_range_1 (range_it I1 (by omega) (by omega) q1 q2 (by simpa using q))
def tFor (wi : TI) (g : TG) (tb : TS) : TS := fun D σ H => wi σ H fun J H1 => ∃ W : Nat → Nat → St → Hp → Prop, (∃ m, W 0 m σ H1) ∧ ∀ i m σ H, W i m σ H →
  (J.stop i H ∧ D.nx σ H) ∨ (J.go i H ∧ ∃ N : St → Hp → Prop, (∀ σ' H', N σ' H' → ∃ m', m' < m ∧ W (i + 1) m' σ' H') ∧ ∀ x H', J.yld i H x H' → g x σ H' fun σ2 H2 => tb { D with nx := N, ct := N, bk := D.nx } σ2 H2)
def pinsAt (fp : List Addr) (h : Heap) : List (Addr × Obj) := fp.filterMap fun b => (h.get? b).map fun o => (b, o)
theorem mem_pinsAt {fp : List Addr} {h : Heap} {b : Addr} {o : Obj} (hb : b ∈ fp) (e : h.get? b = some o) : (b, o) ∈ pinsAt fp h := List.mem_filterMap.mpr ⟨b, hb, by rw [e]; rfl⟩
theorem of_pinsAt {fp : List Addr} {h : Heap} {p : Addr × Obj} (hp : p ∈ pinsAt fp h) : p.1 ∈ fp ∧ h.get? p.1 = some p.2 := by
  obtain ⟨b, hb, e⟩ := List.mem_filterMap.mp hp
  cases q : h.get? b with
  | none => rw [q] at e; cases e
  | some o =>
    rw [q] at e
    have e' : (b, o) = p := Option.some.inj e
    subst e'
    exact ⟨hb, q⟩
theorem Inv.pinned {pins : List (Addr × Obj)} {σ : St} {H : Hp} {s : Shared} {fp : List Addr} (I : Inv X pins σ H s) (hf : ∀ b ∈ fp, FpOk X pins H b) (ho : ∀ b ∈ fp, ∃ o, s.heap.get? b = some o ∧ ∀ v, o.data ≠ .cell v) : Inv X (pins ++ pinsAt fp s.heap) σ H s :=
  I.pins_of fun p hp => (List.mem_append.mp hp).elim (fun z => I.pin p (List.mem_append_right _ z)) fun z => by
    obtain ⟨hb, e⟩ := of_pinsAt z
    obtain ⟨f0, f1, f2, _⟩ := hf p.1 hb
    obtain ⟨o, e', d⟩ := ho p.1 hb
    rw [e] at e'; cases e'
    exact ⟨e, f0, f1, f2, d⟩
theorem Inv.unpinned {pins pl : List (Addr × Obj)} {σ : St} {H : Hp} {s : Shared} (I : Inv X (pins ++ pl) σ H s) : Inv X pins σ H s := I.pins_of fun p hp => I.pin p (List.mem_append_right _ (List.mem_append_left _ hp))
theorem ps_for {iter : Expr} {body : List Stmt} {wi : TI} {g : TG} {tb : TS} {pos : Pos} (hp : PassesOwn (model X.prog X.w) X.A X.env X.xe) (hc : X.calm = true) (hi : PI X tg iter wi) (hg : PG X tg g) (hb : PSs X body tb)
    (hs : ∀ x, foldedSetIterable iter X.env x = pure x := by intro _; rfl) : PS X (.For tg iter body [] pos) (tFor wi g tb) := by
  intro pins s σ H D I h
  refine wpAny_For (thn (hi pins s σ H _ I h) fun v s1 h1 => thn h1 fun itv s2 h2 => ?_) hs
  obtain ⟨it, fp, tn, J, H2, e, I2, T, st2, f2, W, ⟨m0, w0⟩, turn⟩ := h2
  subst e
  have stat : ∀ {H' : Hp}, (∀ b ∈ fp, H' b = none) → ∀ b ∈ fp, FpOk X pins H' b := fun hn b hb => ⟨hn b hb, (f2 b hb).2⟩
  refine codeAny_forLoop_any (fun n s' => ∃ i σ' H', Inv X pins σ' H' s' ∧ tn i s'.heap ∧ (∀ b ∈ fp, H' b = none) ∧ W i n σ' H') ?_ m0 ⟨0, σ, H2, I2, st2, fun b hb => (f2 b hb).1, w0⟩
  rintro n s3 ⟨i, σ3, H3, I3, st3, fr3, w3⟩
  rcases turn i n σ3 H3 w3 with ⟨stop, qn⟩ | ⟨go, N, hN, step⟩
  · refine wpAny_passesOwn hp (thn (T.done X rfl rfl rfl hc i pins s3 σ3 H3 X.xe I3 (stat fr3) st3 stop) fun r s4 ⟨hr, I4⟩ => ?_)
    subst hr
    exact wpAny_execs_nil ⟨σ3, H3, I4, qn⟩
  · refine wpAny_passesOwn hp (thn (T.item X rfl rfl rfl hc i pins s3 σ3 H3 X.xe I3 (stat fr3) st3 go) fun r s4 ⟨u, hr, h4⟩ => ?_)
    subst hr
    refine wpAny_passesOwn hp (thn h4 fun _ s5 ⟨x, H5, I5, r5, y5, st5, fr5⟩ => ?_)
    have I5' := I5.pinned (stat fr5) (T.obj _ _ st5)
    refine wpAny_passesOwn hp (thn (hg _ s5 σ3 H5 x u _ I5' r5 (step x H5 y5)) fun _ s6 ⟨σ6, H6, I6, q6⟩ => ?_)
    refine wpAny_passesOwn hp (thn (hb _ s6 σ6 H6 _ I6 q6) fun f s7 q7 => ?_)
    have again : ∀ {σ7 : St} {H7 : Hp}, Inv X (pins ++ pinsAt fp s5.heap) σ7 H7 s7 → N σ7 H7 → ∃ m, m < n ∧ ∃ i σ' H', Inv X pins σ' H' s7 ∧ tn i s7.heap ∧ (∀ b ∈ fp, H' b = none) ∧ W i m σ' H' := fun {σ7 H7} I7 n7 => by
      obtain ⟨m', hm, w7⟩ := hN σ7 H7 n7
      refine ⟨m', hm, i + 1, σ7, H7, I7.unpinned, T.keep _ _ _ st5 fun b hb o e => (I7.pin (b, o) (List.mem_append_right _ (List.mem_append_right _ (mem_pinsAt hb e)))).1, fun b hb => ?_, w7⟩
      obtain ⟨o, e, d⟩ := T.obj _ _ st5 b hb
      exact (I7.pin (b, o) (List.mem_append_right _ (List.mem_append_right _ (mem_pinsAt hb e)))).2.1
    cases f with
    | next => obtain ⟨σ7, H7, I7, n7⟩ := q7; exact again I7 n7
    | cont => obtain ⟨σ7, H7, I7, n7⟩ := q7; exact again I7 n7
    | brk => obtain ⟨σ7, H7, I7, q7⟩ := q7; exact ⟨σ7, H7, I7.unpinned, q7⟩
    | ret v => obtain ⟨x7, σ7, H7, I7, r7, q7⟩ := q7; exact ⟨x7, σ7, H7, I7.unpinned, r7, q7⟩
end
theorem for_list {K : PySem.W.Frag} {a : Addr} {xs : List V} {g : TG} {tb : TS} {D : Ends} {σ : St} {H : Hp} (Pv : Nat → St → Hp → Prop) (h0 : Pv 0 σ H) (hl : ∀ i σ H, i ≤ xs.length → Pv i σ H → SqL K H a xs)
    (hs : ∀ i x σ H, xs[i]? = some x → Pv i σ H → g x σ H fun σ2 H2 => tb { D with nx := Pv (i + 1), ct := Pv (i + 1), bk := D.nx } σ2 H2) (hd : ∀ σ H, Pv xs.length σ H → D.nx σ H) :
    ∃ W : Nat → Nat → St → Hp → Prop, (∃ m, W 0 m σ H) ∧ ∀ i m σ H, W i m σ H →
      ((Itl K a).stop i H ∧ D.nx σ H) ∨ ((Itl K a).go i H ∧ ∃ N : St → Hp → Prop, (∀ σ' H', N σ' H' → ∃ m', m' < m ∧ W (i + 1) m' σ' H') ∧ ∀ x H', (Itl K a).yld i H x H' → g x σ H' fun σ2 H2 => tb { D with nx := N, ct := N, bk := D.nx } σ2 H2) := by
  refine ⟨fun i m σ H => m = xs.length - i ∧ i ≤ xs.length ∧ Pv i σ H, ⟨xs.length, by simp, Nat.zero_le _, h0⟩, ?_⟩
  rintro i m σ H ⟨rfl, hi, p⟩
  have q := hl i σ H hi p
  by_cases hlt : i < xs.length
  · refine .inr ⟨⟨xs, xs[i], q, by simp [hlt]⟩, Pv (i + 1), fun σ' H' p' => ⟨xs.length - (i + 1), by omega, rfl, hlt, p'⟩, fun x H' y => ?_⟩
    obtain ⟨e, y⟩ := y
    subst e
    exact hs i x σ _ (y xs q) p
  · have e : i = xs.length := by omega
    subst e
    exact .inl ⟨⟨xs, q, Nat.le_refl _⟩, hd σ H p⟩
theorem for_range {lo : Int} {n : Nat} {g : TG} {tb : TS} {D : Ends} {σ : St} {H : Hp} (Pv : Nat → St → Hp → Prop) (h0 : Pv 0 σ H)
    (hs : ∀ i σ H, i < n → Pv i σ H → g (.int (lo + i)) σ H fun σ2 H2 => tb { D with nx := Pv (i + 1), ct := Pv (i + 1), bk := D.nx } σ2 H2) (hd : ∀ σ H, Pv n σ H → D.nx σ H) :
    ∃ W : Nat → Nat → St → Hp → Prop, (∃ m, W 0 m σ H) ∧ ∀ i m σ H, W i m σ H →
      ((Itr lo n).stop i H ∧ D.nx σ H) ∨ ((Itr lo n).go i H ∧ ∃ N : St → Hp → Prop, (∀ σ' H', N σ' H' → ∃ m', m' < m ∧ W (i + 1) m' σ' H') ∧ ∀ x H', (Itr lo n).yld i H x H' → g x σ H' fun σ2 H2 => tb { D with nx := N, ct := N, bk := D.nx } σ2 H2) := by
  refine ⟨fun i m σ H => m = n - i ∧ i ≤ n ∧ Pv i σ H, ⟨n, by simp, Nat.zero_le _, h0⟩, ?_⟩
  rintro i m σ H ⟨rfl, hi, p⟩
  by_cases hlt : i < n
  · refine .inr ⟨hlt, Pv (i + 1), fun σ' H' p' => ⟨n - (i + 1), by omega, rfl, hlt, p'⟩, fun x H' y => ?_⟩
    obtain ⟨e, y⟩ := y
    subst e y
    exact hs i σ _ hlt p
  · have e : i = n := by omega
    subst e
    exact .inl ⟨Nat.le_refl _, hd σ H p⟩
theorem while_by {c : TT} {tb : TS} {D : Ends} {σ : St} {H : Hp} (Pv : St → Hp → Prop) (μ : St → Hp → Nat) (h0 : Pv σ H)
    (hs : ∀ σ H, Pv σ H → c σ H fun b H1 => if b = true then tb { D with nx := fun σ' H' => Pv σ' H' ∧ μ σ' H' < μ σ H, ct := fun σ' H' => Pv σ' H' ∧ μ σ' H' < μ σ H, bk := D.nx } σ H1 else D.nx σ H1)
    (mono : ∀ σ H Q Q', (∀ b H1, Q b H1 → Q' b H1) → c σ H Q → c σ H Q') : tWhile c tb D σ H := by
  refine ⟨fun m σ H => m = μ σ H ∧ Pv σ H, ⟨_, rfl, h0⟩, ?_⟩
  rintro m σ H ⟨rfl, p⟩
  refine mono σ H _ _ (fun b H1 q => ?_) (hs σ H p)
  cases b with
  | true => exact ⟨_, fun σ' H' ⟨p', l⟩ => ⟨_, l, rfl, p'⟩, q⟩
  | false => exact q
end L2
namespace L2
open PySem PySem.Spec PyProof.Rows
abbrev R2 := V → V → Hp → VK → Prop
def OpR (X : Cx) (f : Value → Value → Sem Value) (r : R2) : Prop :=
  ∀ (pins : List (Addr × Obj)) (s : Shared) (σ : St) (H : Hp) (x y : V) (v u : Value) (Q : VK), Inv X pins σ H s → RelV x v → RelV y u → r x y H Q →
    wpAny (model X.prog X.w) X.A (f v u) (EP X pins σ Q) X.xe s
def CallR (X : Cx) (f : Value) (r : List V → Hp → VK → Prop) : Prop :=
  ∀ (pins : List (Addr × Obj)) (s : Shared) (σ : St) (H : Hp) (xs : List V) (us : List Value) (Q : VK), Inv X pins σ H s → Vals xs us → r xs H Q →
    wpAny (model X.prog X.w) X.A (call f us) (EP X pins σ Q) X.xe s
def tOp (r : R2) (ta tb : TE) : TE := fun σ H Q => ta σ H fun x H1 => tb σ H1 fun y H2 => r x y H2 Q
def tUn (r : V → Hp → VK → Prop) (ta : TE) : TE := fun σ H Q => ta σ H fun x H1 => r x H1 Q
def rI (C : Int → Int → Prop) (g : Int → Int → V) : R2 := fun x y H Q => ∃ i j, x = .int i ∧ y = .int j ∧ C i j ∧ Q (g i j) H
def rI0 (g : Int → Int → V) : R2 := fun x y H Q => ∃ i j, x = .int i ∧ y = .int j ∧ Q (g i j) H
def rU (g : Int → V) : V → Hp → VK → Prop := fun x H Q => ∃ i, x = .int i ∧ Q (g i) H
section
variable {X : Cx} {a b c : Expr} {ta tb tc : TE} {pos : Pos}
theorem binT (ha : PE X a ta) (hb : PE X b tb) {pins : List (Addr × Obj)} {s : Shared} {σ : St} {H : Hp} {R : V → V → Hp → Prop} (I : Inv X pins σ H s)
    (h : ta σ H fun x H1 => tb σ H1 fun y H2 => R x y H2) {Q : Value → Shared → Prop} {f : Value → Value → Sem Value}
    (hf : ∀ v u s2 x y H2, Inv X pins σ H2 s2 → RelV x v → RelV y u → R x y H2 → wpAny (model X.prog X.w) X.A (f v u) Q X.xe s2) :
    wpAny (model X.prog X.w) X.A (eval a X.env) (fun v s₁ => wpAny (model X.prog X.w) X.A (eval b X.env) (fun u s₂ => wpAny (model X.prog X.w) X.A (f v u) Q X.xe s₂) X.xe s₁) X.xe s := by
  refine thn (ha pins s σ H _ I h) fun v s1 ⟨x, H1, I1, r1, q1⟩ => ?_
  refine thn (hb pins s1 σ H1 _ I1 q1) fun u s2 ⟨y, H2, I2, r2, q2⟩ => ?_
  exact hf v u s2 x y H2 I2 r1 r2 q2
theorem pe_op {op : Operator} {r : R2} (ho : OpR X (binaryOp op) r) (ha : PE X a ta) (hb : PE X b tb) : PE X (.BinOp a op b pos) (tOp r ta tb) := by
  intro pins s σ H Q I h
  exact wpAny_BinOp (binT ha hb I h fun v u s2 x y H2 I2 rx ry q => ho pins s2 σ H2 x y v u Q I2 rx ry q)
theorem opI {f : Value → Value → Sem Value} {C : Int → Int → Prop} {g : Int → Int → Int}
    (rule : ∀ (i j : Int) (t u : Tok) (s : Shared) (Q : Value → Shared → Prop) (E : Value → Shared → Prop), C i j → Q (.int (g i j) s.toks) { s with toks := s.toks + 1 } → wpAny (model X.prog X.w) X.A (f (.int i t) (.int j u)) Q E s) :
    OpR X f (rI C fun i j => .int (g i j)) := by
  intro pins s σ H x y v u Q I rx ry h
  obtain ⟨i, j, rfl, rfl, hc, q⟩ := h
  obtain ⟨t, rfl⟩ := rx
  obtain ⟨t', rfl⟩ := ry
  exact rule i j t t' s _ _ hc ⟨.int (g i j), H, I.tok _, ⟨_, rfl⟩, q⟩
theorem opI0 {f : Value → Value → Sem Value} {g : Int → Int → Int}
    (rule : ∀ (i j : Int) (t u : Tok) (s : Shared) (Q : Value → Shared → Prop) (E : Value → Shared → Prop), Q (.int (g i j) s.toks) { s with toks := s.toks + 1 } → wpAny (model X.prog X.w) X.A (f (.int i t) (.int j u)) Q E s) :
    OpR X f (rI0 fun i j => .int (g i j)) := by
  intro pins s σ H x y v u Q I rx ry h
  obtain ⟨i, j, rfl, rfl, q⟩ := h
  obtain ⟨t, rfl⟩ := rx
  obtain ⟨t', rfl⟩ := ry
  exact rule i j t t' s _ _ ⟨.int (g i j), H, I.tok _, ⟨_, rfl⟩, q⟩
theorem opB0 {f : Value → Value → Sem Value} {g : Int → Int → Bool}
    (rule : ∀ (i j : Int) (t u : Tok) (s : Shared) (Q : Value → Shared → Prop) (E : Value → Shared → Prop), Q (.bool (g i j)) s → wpAny (model X.prog X.w) X.A (f (.int i t) (.int j u)) Q E s) :
    OpR X f (rI0 fun i j => .bl (g i j)) := by
  intro pins s σ H x y v u Q I rx ry h
  obtain ⟨i, j, rfl, rfl, q⟩ := h
  obtain ⟨t, rfl⟩ := rx
  obtain ⟨t', rfl⟩ := ry
  exact rule i j t t' s _ _ ⟨.bl (g i j), H, I, rfl, q⟩
def CDiv (i j : Int) : Prop := 0 < j ∧ j < 1073741824
def CPow (i j : Int) : Prop := 0 ≤ j ∧ j ≤ 1000000 ∧ i.natAbs < 2 ^ 64
def CMul (i j : Int) : Prop := (-(2 ^ 64) < i ∧ i < 2 ^ 64) ∨ (-(2 ^ 64) < j ∧ j < 2 ^ 64)
theorem CMul.ok {i j : Int} (h : CMul i j) : IntMulOk i j := by
  rcases h with ⟨h1, h2⟩ | ⟨h1, h2⟩
  · exact .of_left (intBits_le_64 h1 h2)
  · exact .of_right (intBits_le_64 h1 h2)
theorem op_add : OpR X (binaryOp .Add) (rI0 fun i j => .int (i + j)) := opI0 fun _ _ _ _ _ _ _ q => add_int q
theorem op_sub : OpR X (binaryOp .Sub) (rI0 fun i j => .int (i - j)) := opI0 fun _ _ _ _ _ _ _ q => sub_int q
theorem op_mul : OpR X (binaryOp .Mult) (rI CMul fun i j => .int (i * j)) := opI fun _ _ _ _ _ _ _ hc q => mul_int q hc.ok
theorem op_fdiv : OpR X (binaryOp .FloorDiv) (rI CDiv fun i j => .int (i / j)) := opI fun i j _ _ _ _ _ hc q => by
  have h1 : (0 : Int) < j := hc.1
  have h2 : j < 1073741824 := hc.2
  exact floordiv_int (by omega) (by rw [Int.fdiv_eq_ediv_of_nonneg i (by omega)]; exact q) (.inl (PyProof.noPylong_small (by omega)))
theorem op_mod : OpR X (binaryOp .Mod) (rI (fun _ j => 0 < j) fun i j => .int (i % j)) := opI fun i j _ _ _ _ _ hc q => by
  have h1 : (0 : Int) < j := hc
  exact mod_int' (by omega) (by rw [Int.fmod_eq_emod_of_nonneg i (by omega)]; exact q)
theorem op_pow : OpR X (binaryOp .Pow) (rI CPow fun i j => .int (i ^ j.toNat)) := opI fun _ _ _ _ _ _ _ hc q => pow_int_small hc.1 hc.2.1 hc.2.2 q
end
def scal : V → V → Bool
  | .non, .non => true | .non, .int _ => true | .int _, .non => true | .non, .bl _ => true | .bl _, .non => true | .non, .str _ => true | .str _, .non => true
  | .int _, .int _ => true | .bl _, .bl _ => true | .str _, .str _ => true | .byt _, .byt _ => true
  | .int _, .str _ => true | .str _, .int _ => true | .bl _, .str _ => true | .str _, .bl _ => true
  | _, _ => false
def rEq : R2 := fun x y H Q => scal x y = true ∧ Q (.bl (decide (x = y))) H
def rNe : R2 := fun x y H Q => scal x y = true ∧ Q (.bl (!decide (x = y))) H
theorem dec_int {i j : Int} : decide (V.int i = V.int j) = (i == j) := by
  rw [Bool.eq_iff_iff]
  simp
theorem dec_bl {i j : Bool} : decide (V.bl i = V.bl j) = (i == j) := by
  rw [Bool.eq_iff_iff]
  simp
theorem dec_str {i j : Str} : decide (V.str i = V.str j) = (i == j) := by
  rw [Bool.eq_iff_iff]
  simp
theorem dec_byt {i j : Array UInt8} : decide (V.byt i = V.byt j) = (i.toList == j.toList) := by
  rw [Bool.eq_iff_iff]
  cases i
  cases j
  simp
section
variable {X : Cx} {a b c : Expr} {ta tb tc : TE} {pos : Pos}
theorem fin_bl {pins : List (Addr × Obj)} {σ : St} {H : Hp} {s : Shared} {Q : VK} {k k' : Bool} (I : Inv X pins σ H s) (q : Q (.bl k) H) (e : k = k') : EP X pins σ Q (.bool k') s := by
  subst e
  exact ⟨.bl k, H, I, rfl, q⟩
theorem op_eq : OpR X (compareOp .Eq) rEq := by
  intro pins s σ H x y v u Q I rx ry h
  obtain ⟨hs, q⟩ := h
  cases x with
  | non =>
    cases rx
    cases y with
    | non => cases ry; exact PySem.EqNone.eq_none_none (fin_bl I q (by simp))
    | bl j => cases ry; exact PySem.EqNone.eq_none_bool (fin_bl I q (by simp))
    | int j => obtain ⟨t', rfl⟩ := ry; exact PySem.EqNone.eq_none_int (fin_bl I q (by simp))
    | str j => obtain ⟨t', rfl⟩ := ry; exact PySem.EqNone.eq_none_str (fin_bl I q (by simp))
    | _ => exact absurd (show false = true from hs) Bool.false_ne_true
  | bl i =>
    cases rx
    cases y with
    | non => cases ry; exact PySem.EqNone.eq_bool_none (fin_bl I q (by simp))
    | bl j => cases ry; exact eq_bool (fin_bl I q dec_bl)
    | str j => obtain ⟨t', rfl⟩ := ry; exact PySem.EqMixed.eq_bool_str (fin_bl I q (by simp))
    | _ => exact absurd (show false = true from hs) Bool.false_ne_true
  | int i =>
    obtain ⟨t, rfl⟩ := rx
    cases y with
    | non => cases ry; exact PySem.EqNone.eq_int_none (fin_bl I q (by simp))
    | int j => obtain ⟨t', rfl⟩ := ry; exact eq_int (fin_bl I q dec_int)
    | str j => obtain ⟨t', rfl⟩ := ry; exact PySem.EqMixed.eq_int_str (fin_bl I q (by simp))
    | _ => exact absurd (show false = true from hs) Bool.false_ne_true
  | str i =>
    obtain ⟨t, rfl⟩ := rx
    cases y with
    | non => cases ry; exact PySem.EqNone.eq_str_none (fin_bl I q (by simp))
    | bl j => cases ry; exact PySem.EqMixed.eq_str_bool (fin_bl I q (by simp))
    | int j => obtain ⟨t', rfl⟩ := ry; exact PySem.EqMixed.eq_str_int (fin_bl I q (by simp))
    | str j => obtain ⟨t', rfl⟩ := ry; exact eq_str (fin_bl I q dec_str)
    | _ => exact absurd (show false = true from hs) Bool.false_ne_true
  | byt i =>
    obtain ⟨t, rfl⟩ := rx
    cases y with
    | byt j => obtain ⟨t', rfl⟩ := ry; exact PySem.W.eq_bytes (fin_bl I q dec_byt)
    | _ => exact absurd (show false = true from hs) Bool.false_ne_true
  | _ => cases y <;> exact absurd (show false = true from hs) Bool.false_ne_true
theorem op_lt : OpR X (compareOp .Lt) (rI0 fun i j => .bl (decide (i < j))) := opB0 fun _ _ _ _ _ _ _ q => lt_int q
theorem op_gt : OpR X (compareOp .Gt) (rI0 fun i j => .bl (decide (j < i))) := opB0 fun _ _ _ _ _ _ _ q => gt_int q
theorem OpR.or {f : Value → Value → Sem Value} {r r' : R2} (h : OpR X f r) (h' : OpR X f r') : OpR X f (fun x y H Q => r x y H Q ∨ r' x y H Q) := by
  intro pins s σ H x y v u Q I rx ry q
  rcases q with q | q
  · exact h pins s σ H x y v u Q I rx ry q
  · exact h' pins s σ H x y v u Q I rx ry q
theorem nomark (b : Expr) {op : CmpOp} (h : op ≠ .In := by decide) (h2 : op ≠ .NotIn := by decide) : behindInMarks op b = false := by
  have e1 : (op == CmpOp.In) = false := by cases op <;> first | rfl | exact absurd rfl h
  have e2 : (op == CmpOp.NotIn) = false := by cases op <;> first | rfl | exact absurd rfl h2
  cases b <;> simp [behindInMarks, e1, e2]
theorem pe_cmpR {op : CmpOp} {r : R2} (ho : OpR X (compareOp op) r) (ha : PE X a ta) (hb : PE X b tb) (hm : behindInMarks op b = false) : PE X (.Compare a [op] [b] pos) (tOp r ta tb) := by
  intro pins s σ H Q I h
  exact wpAny_Compare1 (binT ha hb I h fun v u s2 x y H2 I2 rx ry q => ho pins s2 σ H2 x y v u Q I2 rx ry q) hm
def tTest (t : TE) : TT := fun σ H Q => t σ H fun x H' => ∃ k, x = .bl k ∧ Q k H'
theorem pt_cmpR {op : CmpOp} {r : R2} (ho : OpR X (compareOp op) r) (ha : PE X a ta) (hb : PE X b tb) (hm : behindInMarks op b = false) : PT X (.Compare a [op] [b] pos) (tTest (tOp r ta tb)) := by
  intro pins s σ H Q I h
  refine wpAny_isTrue_Compare1 (thn (ha pins s σ H _ I h) fun v s1 ⟨x, H1, I1, r1, q1⟩ => thn (hb pins s1 σ H1 _ I1 q1) fun u s2 ⟨y, H2, I2, r2, q2⟩ =>
    thn (ho pins s2 σ H2 x y v u _ I2 r1 r2 q2) fun c s3 ⟨z, H3, I3, r3, k, e, q3⟩ => ?_) hm
  subst e
  cases r3
  exact wpAny_truthy_bool ⟨H3, I3, q3⟩
theorem line63 : (sizeLine : Nat) < 2 ^ 63 := by rw [sizeLine_eq]; decide
theorem vals1 {x : V} {us : List Value} (r : Vals [x] us) : ∃ u, us = [u] ∧ RelV x u := by
  cases r with
  | cons r1 r2 => cases r2; exact ⟨_, rfl, r1⟩
theorem vals2 {x y : V} {us : List Value} (r : Vals [x, y] us) : ∃ u w', us = [u, w'] ∧ RelV x u ∧ RelV y w' := by
  cases r with
  | cons r1 r2 =>
    cases r2 with
    | cons r3 r4 => cases r4; exact ⟨_, _, rfl, r1, r3⟩
theorem call_int1 : CallR X (.type "int") (fun xs H Q => (∃ i, xs = [.int i] ∧ Q (.int i) H) ∨ ∃ k, xs = [.bl k] ∧ Q (.int (if k then 1 else 0)) H) := by
  intro pins s σ H xs us Q I r h
  rcases h with ⟨i, rfl, q⟩ | ⟨k, rfl, q⟩
  · obtain ⟨u, rfl, t, rfl⟩ := vals1 r
    exact call_int_int ⟨.int i, H, I, ⟨_, rfl⟩, q⟩
  · obtain ⟨u, rfl, r1⟩ := vals1 r
    cases r1
    exact call_int_bool ⟨.int (if k then 1 else 0), H, I.tok _, ⟨_, rfl⟩, q⟩
end
end L2
namespace L2
open PySem PySem.Spec PyProof.Rows
structure ObjM (h : Heap) (x dx C : Addr) (mA : Str → Option Value) : Prop where
  obj : h.get? x = some (PySem.W.instObj C dx)
  ns : h.Ns1 dx mA
  ne : dx ≠ x
theorem lookIn_ns {h : Heap} {dx : Addr} {mA : Str → Option Value} (n : h.Ns1 dx mA) : ∃ od, h.get? dx = some od ∧ ∀ name, PySem.W.lookIn name od = some (mA name) := by
  obtain ⟨o, es, ep, ho, hd, hk, _, hm⟩ := n
  refine ⟨o, ho, fun name => ?_⟩
  have e := hm name
  unfold nsFind findBy at e
  rw [← Array.find?_toList] at e
  unfold PySem.W.lookIn
  rw [hd]
  dsimp only
  split
  · rename_i y q
    rw [q] at e
    exact congrArg some e
  · rename_i q
    rw [q] at e
    have a : es.toList.any (·.refKey) = false := by
      rw [List.any_eq_false]
      intro y hy
      obtain ⟨z, t, hkey⟩ := hk y (Array.mem_toList_iff.mp hy)
      simp [DictEntry.refKey, hkey]
    have a' : ¬ es.toList.any (·.refKey) = true := by rw [a]; exact Bool.false_ne_true
    rw [if_neg a']
    exact congrArg some e
theorem ObjM.look {h : Heap} {x dx C : Addr} {mA : Str → Option Value} (I : ObjM h x dx C mA) : ∃ od, PySem.W.InstAt h x (PySem.W.instObj C dx) C (some od) ∧ ∀ name, PySem.W.lookIn name od = some (mA name) :=
  let ⟨od, ho, hl⟩ := lookIn_ns I.ns
  ⟨od, ⟨I.obj, rfl, rfl, ho⟩, hl⟩
section
variable {prog : Program} {w : World} {A : Around} {E : Value → Shared → Prop} {s : Shared} {K : PySem.W.Frag} {x dx C f : Addr} {mA : Str → Option Value} {name : Str} {v : Value}
end
section
variable {P : Program} {w : World} {H H' : Hp} {h h' : Heap} {a C dx : Addr} {fs fs' : List (Str × V)}
theorem ins_get (hok : HOk P w H h) (e : H a = some (.ins C dx fs)) : ∃ mA, ObjM h a dx C mA ∧ (∀ f, RelO (fs.lookup f) (mA f)) ∧ PySem.Within mA (fs.map (·.1)) ∧ fs.length ≤ 1000 ∧ H dx = some (.own a) := by
  obtain ⟨d, z, ne, ob, mA, n, r, q⟩ := (show ObjOk P w H h a (.ins C dx fs) from hok a _ e)
  exact ⟨mA, ⟨ob, n, ne⟩, r, q, z, d⟩
end
structure Cls (K : PySem.W.Frag) (C : Addr) : Prop where
  pg : PySem.W.plainGet K C Str.empty = true
  hd : PySem.W.hasDictIn K C = true
  po : PySem.W.plainOver K C = true
  sa : PySem.W.findIn K (.ref C) "__setattr__" = some (some (.builtin "object.__setattr__"))
theorem Cls.get {K : PySem.W.Frag} {C : Addr} (c : Cls K C) (f : Str) : PySem.W.plainGet K C f = true := c.pg
section
variable {X : Cx} {pins : List (Addr × Obj)} {σ : St} {H : Hp} {s : Shared} {a C dx : Addr} {fs : List (Str × V)} {f : Str} {v : V} {A : Around} {E : Value → Shared → Prop}
theorem Inv.made (I : Inv X pins σ H s) : Inv X pins σ (upd (upd H s.heap.objs.size (.own (s.heap.objs.size + 1))) (s.heap.objs.size + 1) (.ins C s.heap.objs.size []))
    { s with heap := (s.heap.push PySem.W.emptyDict).push (PySem.W.instObj C s.heap.objs.size) } := by
  have e1 : (s.heap.push PySem.W.emptyDict).get? s.heap.objs.size = some PySem.W.emptyDict := Heap.get?_push_size s.heap rfl
  have e2 : ((s.heap.push PySem.W.emptyDict).push (PySem.W.instObj C s.heap.objs.size)).get? (s.heap.objs.size + 1) = some (PySem.W.instObj C s.heap.objs.size) := by
    have := Heap.get?_push_size (s.heap.push PySem.W.emptyDict) (o := PySem.W.instObj C s.heap.objs.size) rfl
    rwa [Heap.size_push] at this
  have e3 : (s.heap.push PySem.W.emptyDict).Ns s.heap.objs.size (fun _ => none) := ⟨PySem.W.emptyDict, #[], _, e1, rfl, (fun e he => absurd he (by simp)), fun _ => rfl⟩
  have I1 := I.laid (a := s.heap.objs.size) (o := .own (s.heap.objs.size + 1)) (h' := s.heap.push PySem.W.emptyDict) (t' := s.toks) (fun b u q => Heap.get?_push_of_some _ q) (Nat.le_refl _) ⟨_, e1⟩
  refine I1.laid (a := s.heap.objs.size + 1) (o := .ins C s.heap.objs.size []) (t' := s.toks) (fun b u q => Heap.get?_push_of_some _ q) (Nat.le_of_eq (Heap.size_push _ _)) ?_
  have ne : s.heap.objs.size ≠ s.heap.objs.size + 1 := Nat.ne_of_lt (Nat.lt_succ_self _)
  refine ⟨by rw [upd_ne ne, upd_same], Nat.zero_le _, ne, e2, fun _ => none, (Heap.Ns1.of_empty e3).at fun o q => Heap.get?_push_of_some _ q, fun _ => True.intro, fun y hy => absurd rfl hy⟩
end
section
variable {X : Cx} {o e value : Expr} {f : Str} {pos pos' tpos : Pos} {ta tv : TE}
end
section
variable {X : Cx} {pins : List (Addr × Obj)} {σ : St} {H : Hp} {s : Shared} {A : Around} {E : Value → Shared → Prop} {Q : Value → Shared → Prop} {c : Value} {b : Bool}
inductive TyOf (K : PySem.W.Frag) (H : Hp) : V → Value → Prop where
  | non : TyOf K H .non (.type "NoneType")
  | bl (x : Bool) : TyOf K H (.bl x) (.type "bool")
  | int (i : Int) : TyOf K H (.int i) (.type "int")
  | str (x : Str) : TyOf K H (.str x) (.type "str")
  | flt (x : UInt64) : TyOf K H (.flt x) (.type "float")
  | lst {a : Addr} {xs : List V} (e : H a = some (.lst xs)) : TyOf K H (.ref a) (.type "list")
  | frz {a : Addr} {o : Obj} {xs : List V} (e : H a = some (.frz o (.lst xs))) : TyOf K H (.ref a) (.type "list")
  | tup {a : Addr} {xs : List V} (e : H a = some (.tup xs)) : TyOf K H (.ref a) (.type "tuple")
  | dK {a : Addr} {kvs : List (Key × V)} (e : H a = some (.dK kvs)) : TyOf K H (.ref a) (.type "dict")
  | dT {a : Addr} {kvs : List (List Key × V)} (e : H a = some (.dT kvs)) : TyOf K H (.ref a) (.type "dict")
  | ins {a C dx : Addr} {fs : List (Str × V)} (e : H a = some (.ins C dx fs)) (cl : Cls K C) (ha : PySem.W.findIn K (.ref C) "__class__" = some (some (.builtin "object.__class__")))
      (hn : PySem.W.specialIn K (.builtin "object.__class__") "__get__" = some (some (.builtin "getset_descriptor.__get__"))) (htk : PySem.W.takesIn K (.builtin "object.__class__") = some true)
      (hm : PySem.W.mroIn K C (.type "object") = some true) : TyOf K H (.ref a) (.ref C)
theorem isinst_ok {x : V} {u t : Value} (I : Inv X pins σ H s) (rx : RelV x u) (ty : TyOf X.K H x t) (e : PySem.W.kitOne X.K t c = some b) (h : ∀ tk, Q (.bool b) { s with toks := tk }) :
    wpAny (model X.prog X.w) A (call (.builtin "isinstance") [u, c]) Q E s := by
  cases ty with
  | non => cases (show u = Value.none from rx); exact PySem.W.kia_one PySem.W.kitx_none I.kIn True.intro e (fun z => nomatch z) h
  | bl y => cases (show u = Value.bool y from rx); exact PySem.W.kia_one PySem.W.kitx_bool I.kIn True.intro e (fun z => nomatch z) h
  | int i => obtain ⟨t, q⟩ := (show ∃ t, u = Value.int i t from rx); cases q; exact PySem.W.kia_one PySem.W.kitx_int I.kIn True.intro e (fun z => nomatch z) h
  | str y => obtain ⟨t, q⟩ := (show ∃ t, u = Value.str y t from rx); cases q; exact PySem.W.kia_one PySem.W.kitx_str I.kIn True.intro e (fun z => nomatch z) h
  | flt y => obtain ⟨t, q⟩ := (show ∃ t, u = Value.float y t from rx); cases q; exact PySem.W.kia_one PySem.W.kitx_float I.kIn True.intro e (fun z => nomatch z) h
  | @lst a xs ea =>
    cases (show u = Value.ref a from rx)
    obtain ⟨_, _, n, _, h1⟩ := (show ObjOk X.prog X.w H s.heap a (.lst xs) from I.hok a _ ea)
    exact PySem.W.kia_one PySem.W.kitx_list I.kIn ⟨_, h1, rfl⟩ e (fun z => nomatch z) h
  | @frz a ob xs ea =>
    cases (show u = Value.ref a from rx)
    obtain ⟨_, _, _, n, _, h1⟩ := (show ObjOk X.prog X.w H s.heap a (.frz ob (.lst xs)) from I.hok a _ ea)
    exact PySem.W.kia_one PySem.W.kitx_list I.kIn ⟨_, h1, rfl⟩ e (fun z => nomatch z) h
  | @tup a xs ea =>
    cases (show u = Value.ref a from rx)
    obtain ⟨_, _, _, p⟩ := (show ObjOk X.prog X.w H s.heap a (.tup xs) from I.hok a _ ea)
    obtain ⟨o, h1, h2, _⟩ := p
    exact PySem.W.kia_one PySem.W.kitx_tuple I.kIn ⟨o, h1, h2⟩ e (fun z => nomatch z) h
  | @dK a kvs ea =>
    cases (show u = Value.ref a from rx)
    obtain ⟨_, _, vs, _, p⟩ := (show ObjOk X.prog X.w H s.heap a (.dK kvs) from I.hok a _ ea)
    obtain ⟨o, es, ep, h1, h2, _⟩ := p
    exact PySem.W.kia_one PySem.W.kitx_dict I.kIn ⟨o, h1, h2.1⟩ e (fun z => nomatch z) h
  | @dT a kvs ea =>
    cases (show u = Value.ref a from rx)
    obtain ⟨_, _, xs, _, o, es, ep, h1, h2, _⟩ := (show ObjOk X.prog X.w H s.heap a (.dT kvs) from I.hok a _ ea)
    exact PySem.W.kia_one PySem.W.kitx_dict I.kIn ⟨o, h1, h2.1⟩ e (fun z => nomatch z) h
  | @ins a C dx fs ea cl ha hn htk hm =>
    cases (show u = Value.ref a from rx)
    obtain ⟨mA, O, _⟩ := ins_get I.hok ea
    obtain ⟨od, J, _⟩ := O.look
    exact PySem.W.kia_one (PySem.W.kitx_own (cl.get _) cl.hd ha hn htk hm) I.kIn J e (fun z => nomatch z) h
end
end L2
namespace L2
open PySem PySem.Spec PyProof.Rows
structure Room (k : Nat) (A : Around) : Prop where
  hd : A.handled = none
  dp : A.depth + 3 * k + 5 < recursionLimit
  un : A.units + 16 * k + 200 < cLine
theorem Room.mono {j k : Nat} {A : Around} (r : Room k A) (h : j ≤ k) : Room j A := ⟨r.hd, by have := r.dp; omega, by have := r.un; omega⟩
theorem Room.deeper {k : Nat} {A : Around} (r : Room (k + 1) A) (env : Env) : Room k (A.deeper env) :=
  ⟨r.hd, by have := r.dp; show A.depth + 1 + 3 * k + 5 < _; omega, by have := r.un; show A.units + 3 + 16 * k + 200 < _; omega⟩
theorem Room.in1 {k : Nat} {A : Around} (r : Room (k + 1) A) : Room k A.in1 :=
  ⟨r.hd, by have := r.dp; show A.depth + 3 * k + 5 < _; omega, by have := r.un; show A.units + 1 + 16 * k + 200 < _; omega⟩
theorem Room.depth {k : Nat} {A : Around} (r : Room k A) : A.depth < recursionLimit := by have := r.dp; omega
theorem Room.units {k : Nat} {A : Around} (r : Room k A) : A.units + 64 < cLine := by have := r.un; omega
def tNil : TA := fun _ H Q => Q [] H
def tCons (ta : TE) (tr : TA) : TA := fun σ H Q => ta σ H fun x H1 => tr σ H1 fun xs H2 => Q (x :: xs) H2
section
variable {X : Cx} {e : Expr} {es : List Expr} {te : TE} {t : TA} {pos : Pos}
theorem pa_nil : PA X [] tNil := fun _ _ _ _ H Q I h => Calls.spliced_nil ⟨[], H, I, .nil, h⟩
theorem pa_cons (ha : PE X e te) (hr : PA X es t) (hs : starEach (e :: es) X.env = (false, eval e X.env) :: starEach es X.env := by rfl) : PA X (e :: es) (tCons te t) := by
  intro pos pins s σ H Q I h
  rw [hs]
  show wpAny _ _ (spliced ((false, eval e X.env) :: backTo pos (starEach es X.env))) _ _ s
  refine Calls.spliced_cons (thn (ha pins s σ H _ I h) fun u s1 ⟨x, H1, I1, r1, q1⟩ => ?_)
  exact thn (hr pos pins s1 σ H1 _ I1 q1) fun us s2 ⟨xs, H2, I2, r2, q2⟩ => ⟨x :: xs, H2, I2, .cons r1 r2, q2⟩
def tTup (t : TA) : TE := fun σ H Q => t σ H fun xs H1 => xs.length ≤ sizeLine ∧ ∀ p, H1 p = none → Q (.ref p) (upd H1 p (.tup xs))
def tLst (t : TA) : TE := fun σ H Q => t σ H fun xs H1 => xs.length ≤ sizeLine ∧ ∀ p, H1 p = none → Q (.ref p) (upd H1 p (.lst xs))
theorem pe_lst (h : PA X es t) : PE X (.List es pos) (tLst t) := by
  intro pins s σ H Q I hq
  refine wpAny_List_spliced (thn (h pos pins s σ H _ I hq) fun us s1 ⟨xs, H1, I1, r, z, q⟩ => ⟨by rw [← r.length]; exact z, ?_⟩)
  have hf : H1 s1.heap.objs.size = none := I1.hok.fresh (Nat.le_refl _)
  refine ⟨.ref s1.heap.objs.size, upd H1 s1.heap.objs.size (.lst xs), I1.laid (t' := s1.toks) (fun b u e => Heap.get?_push_of_some _ e) (Nat.le_refl _) ?_, rfl, q _ hf⟩
  exact ⟨z, us, 0, r, Heap.get?_push_size _ rfl⟩
end
abbrev Sp := List V → Hp → VK → XK → Prop
abbrev CXT := List Env → Hp → Shared → XK → Value → Shared → Prop
structure Env0 (P : Program) (w : World) (K : PySem.W.Frag) (mg : Str → Option Value) (base : Heap) (A : Around) (outer : List Env) (s : Shared) (H : Hp) : Prop where
  frames : A.frames = some outer
  mod : Mod K mg base
  bs : ∀ b o, base.get? b = some o → s.heap.get? b = some o ∧ H b = none
  bsz : base.objs.size ≤ s.heap.objs.size
  funs : s.heap.FunFrames base outer
  frf : ∀ b ∈ frs outer, H b = none
  hok : HOk P w H s.heap
  bare : AllBare s.gens
def CE (outer : List Env) (P : Program) (w : World) (H : Hp) (s : Shared) (Q : VK) (u : Value) (s' : Shared) : Prop :=
  ∃ v H', s'.os = s.os ∧ AllBare s'.gens ∧ Un (frs outer) [] H H' s.heap s'.heap ∧ HOk P w H' s'.heap ∧ RelV v u ∧ Q v H'
def CR (CX : CXT) (outer : List Env) (P : Program) (w : World) (H : Hp) (s : Shared) (Q : VK) (E : XK) (r : Result) (s' : Shared) : Prop :=
  match r with
  | .ok (.ret u) => CE outer P w H s Q u s'
  | .ok _ => False
  | .error e => CX outer H s E e s'
structure FnOk (P : Program) (w : World) (K : PySem.W.Frag) (mg : Str → Option Value) (base : Heap) (CX : CXT) (k : Nat) (f : Addr) (fd : FuncData) (ps : List Str) (sp : Sp) : Prop where
  len : ∀ vs H Q E, sp vs H Q E → vs.length = ps.length
  run : ∀ (A : Around) (outer : List Env) (s : Shared) (H : Hp) (args : Args) (us : List Value) (vs : List V) (Q : VK) (E : XK), Room k A → Env0 P w K mg base A outer s H → BindsTo s fd args (ps.zip us) → Vals vs us → sp vs H Q E →
    codeAny (model P w) A (.call (.ref f) args) (CR CX outer P w H s Q E) s
theorem FnOk.mono {P : Program} {w : World} {K : PySem.W.Frag} {mg : Str → Option Value} {base : Heap} {CX : CXT} {j k : Nat} {f : Addr} {fd : FuncData} {ps : List Str} {sp : Sp} (F : FnOk P w K mg base CX j f fd ps sp) (h : j ≤ k) :
    FnOk P w K mg base CX k f fd ps sp := ⟨F.len, fun A outer s H args us vs Q E hr => F.run A outer s H args us vs Q E (hr.mono h)⟩
theorem FnOk.imp {P : Program} {w : World} {K : PySem.W.Frag} {mg : Str → Option Value} {base : Heap} {CX : CXT} {k : Nat} {f : Addr} {fd : FuncData} {ps : List Str} {sp sp' : Sp} (F : FnOk P w K mg base CX k f fd ps sp)
    (h : ∀ vs H Q E, sp' vs H Q E → sp vs H Q E) : FnOk P w K mg base CX k f fd ps sp' :=
  ⟨fun vs H Q E q => F.len vs H Q E (h _ _ _ _ q), fun A outer s H args us vs Q E hr he hb hv hs => F.run A outer s H args us vs Q E hr he hb hv (h _ _ _ _ hs)⟩
theorem Env0.in1 {P : Program} {w : World} {K : PySem.W.Frag} {mg : Str → Option Value} {base : Heap} {A : Around} {outer : List Env} {s : Shared} {H : Hp} (e : Env0 P w K mg base A outer s H) :
    Env0 P w K mg base A.in1 outer s H := ⟨e.frames, e.mod, e.bs, e.bsz, e.funs, e.frf, e.hok, e.bare⟩
section
variable {X : Cx} {pins : List (Addr × Obj)} {σ : St} {H : Hp} {s s' : Shared}
theorem Inv.env0 (I : Inv X pins σ H s) : Env0 X.prog X.w X.K X.mg X.base X.A X.stack s H :=
  ⟨I.ok.frames, I.ok.mod, I.bs, Nat.le_trans I.ok.bsz I.sz, I.stack, I.stkFree, I.hok, I.bare⟩
theorem Inv.after {Q : VK} {u : Value} (I : Inv X pins σ H s) (h : CE X.stack X.prog X.w H s Q u s') : EP X pins σ Q u s' := by
  obtain ⟨v, H', os, bare, un, hok, r, q⟩ := h
  obtain ⟨hh, g, d, t, os'⟩ := s'
  obtain rfl : os' = s.os := os
  exact ⟨v, H', I.call (h' := hh) (g' := g) (d' := d) (t' := t) (ch := []) un hok bare (fun b z => absurd z (by simp)), r, q⟩
end
def tCall (sp : Sp) (dvs : List V) (E : XK) (t : TA) : TE := fun σ H Q => t σ H fun vs H1 => sp (vs ++ dvs) H1 Q E
def Binds (K : PySem.W.Frag) (fd : FuncData) (ps : List Str) (ds : List Value) : Prop :=
  ∀ (s : Shared) (us : List Value), K.In s.heap → (us ++ ds).length = ps.length → BindsTo s fd ⟨us, []⟩ (ps.zip (us ++ ds))
theorem Binds.all {K : PySem.W.Frag} {fd : FuncData} {ps : List Str} (h : ∀ us : List Value, us.length = ps.length → bindArgs fd ⟨us, []⟩ = pure (ps.zip us)) : Binds K fd ps [] := fun s us _ hl => by
  rw [List.append_nil] at hl ⊢
  exact .of_eq (h us hl)
def Passes (CX : CXT) (X : Cx) (E : XK) : Prop := ∀ (pins : List (Addr × Obj)) (σ : St) (H : Hp) (s : Shared) (e : Value) (s' : Shared), Inv X pins σ H s → CX X.stack H s E e s' → X.xe e s'
section
variable {X : Cx} {CX : CXT} {k : Nat} {f C : Addr} {fd : FuncData} {ps : List Str} {sp : Sp} {dvs : List V} {ds : List Value} {E : XK} {x m : Str} {p pos apos : Pos} {e o : Expr} {es : List Expr} {ta : TE} {t : TA}
theorem run_fn {pins : List (Addr × Obj)} {σ : St} {H : Hp} {s : Shared} {Q : VK} {us : List Value} {vs : List V} (F : FnOk X.prog X.w X.K X.mg X.base CX k f fd ps sp) (hr : Room k X.A) (hb : Binds X.K fd ps ds) (hd : Vals dvs ds) (hx : Passes CX X E)
    (I : Inv X pins σ H s) (r : Vals vs us) (h : sp (vs ++ dvs) H Q E) : wpAny (model X.prog X.w) X.A (call (.ref f) us) (EP X pins σ Q) X.xe s := by
  have r2 : Vals (vs ++ dvs) (us ++ ds) := r.append hd
  have hl : (us ++ ds).length = ps.length := by rw [← r2.length]; exact F.len _ _ _ _ h
  refine wpAny_call (codeAny_mono (F.run X.A X.stack s H ⟨us, []⟩ (us ++ ds) (vs ++ dvs) Q E hr I.env0 (hb s us I.kIn hl) r2 h) fun r s' hq => ?_)
  cases r with
  | error e => exact hx pins σ H s e s' I hq
  | ok fl =>
    cases fl with
    | ret u => exact I.after hq
    | next => exact False.elim hq
    | brk => exact False.elim hq
    | cont => exact False.elim hq
theorem pe_call (F : FnOk X.prog X.w X.K X.mg X.base CX k f fd ps sp) (hr : Room k X.A) (hg : Gl X x) (hm : X.mg x = some (.ref f)) (hk : PySem.W.keepIn X.K (.ref f) = true) (hb : Binds X.K fd ps ds) (hd : Vals dvs ds) (hx : Passes CX X E)
    (ha : PA X (e :: es) t) (hdb : (x == ("__debug__" : Str)) = false := by decide) (he : starEach (e :: es) X.env = (false, eval e X.env) :: starEach es X.env := by rfl) (hpl : (backTo pos (starEach es X.env)).any (·.1) = false := by rfl) :
    PE X (.Call (.Name x p) (e :: es) [] pos) (tCall sp dvs E t) := by
  intro pins s σ H Q I h
  refine wpAny_Call_Name_kw (ld_glob I hg hm ?_ hdb)
  refine PySem.W.callWith_K (h₀ := X.base) I.ok.mod.kin hk (thn (ha pos pins s σ H _ I h) fun us s1 ⟨vs, H1, I1, r, q⟩ => ⟨I1.kIn, ?_⟩) he hpl
  exact run_fn F hr hb hd hx I1 r q
end
section
variable {X : Cx} {CX : CXT} {k : Nat} {f C : Addr} {fd : FuncData} {ps ks : List Str} {sp : Sp} {E : XK} {x m : Str} {p pos apos kpos : Pos} {e o : Expr} {es : List Expr} {kws : List Keyword} {te ta : TE} {t tk : TA} {nm : Option Str}
variable {g : List Value → List Value → List Value} {gV : List V → List V → List V}
end
structure FnScope (N P : List Str) (sc : Scope) : Prop where
  kind : sc.kind = .function
  co : sc.isCoroutine = false
  gen : sc.isGenerator = false
  nd : N.Nodup
  pre : N.take P.length = P
  par : ∀ x ∈ P, sc.names.lookup x = some .local ∨ sc.names.lookup x = some .cell
  nofree : ∀ y ∈ sc.names, y.2 ≠ .free
theorem bindL_out {kindOf : Str → Option NameKind} {x : Str} : ∀ {binds : List (Str × Value)} {m : Str → Option Value}, (∀ v, (x, v) ∉ binds) → bindL kindOf binds m x = m x
  | [], _, _ => rfl
  | (n, v) :: r, m, h => by
    unfold bindL
    rw [bindL_out fun w hw => h w (List.mem_cons_of_mem _ hw)]
    split
    · have : x ≠ n := by rintro rfl; exact h v List.mem_cons_self
      simp [this]
    · rfl
theorem bindC_out {kindOf : Str → Option NameKind} {x : Str} : ∀ {binds : List (Str × Value)} {m : Str → Option Value}, (∀ v, (x, v) ∉ binds) → bindC kindOf binds m x = m x
  | [], _, _ => rfl
  | (n, v) :: r, m, h => by
    unfold bindC
    rw [bindC_out fun w hw => h w (List.mem_cons_of_mem _ hw)]
    split
    · rfl
    · have : x ≠ n := by rintro rfl; exact h v List.mem_cons_self
      simp [this]
theorem bindL_get {kindOf : Str → Option NameKind} {x : Str} {v : Value} : ∀ {P : List Str} {vs : List Value} {i : Nat} {m : Str → Option Value}, P.Nodup → P[i]? = some x → vs[i]? = some v → kindOf x = some .local →
    bindL kindOf (P.zip vs) m x = some v
  | [], _, _, _, _, h, _, _ => by simp at h
  | _ :: _, [], _, _, _, _, h, _ => by simp at h
  | p :: P, w :: vs, 0, m, nd, h1, h2, hk => by
    simp at h1 h2; subst h1; subst h2
    show bindL kindOf ((p, w) :: P.zip vs) m p = _
    unfold bindL
    rw [bindL_out fun v hv => (List.nodup_cons.mp nd).1 (List.of_mem_zip hv).1, if_pos hk]
    simp
  | p :: P, w :: vs, i + 1, m, nd, h1, h2, hk => by
    show bindL kindOf ((p, w) :: P.zip vs) m x = _
    unfold bindL
    exact bindL_get (i := i) (List.nodup_cons.mp nd).2 (by simpa using h1) (by simpa using h2) hk
theorem bindC_get {kindOf : Str → Option NameKind} {x : Str} {v : Value} : ∀ {P : List Str} {vs : List Value} {i : Nat} {m : Str → Option Value}, P.Nodup → P[i]? = some x → vs[i]? = some v → kindOf x ≠ some .local →
    bindC kindOf (P.zip vs) m x = some v
  | [], _, _, _, _, h, _, _ => by simp at h
  | _ :: _, [], _, _, _, _, h, _ => by simp at h
  | p :: P, w :: vs, 0, m, nd, h1, h2, hk => by
    simp at h1 h2; subst h1; subst h2
    show bindC kindOf ((p, w) :: P.zip vs) m p = _
    unfold bindC
    rw [bindC_out fun v hv => (List.nodup_cons.mp nd).1 (List.of_mem_zip hv).1, if_neg hk]
    simp
  | p :: P, w :: vs, i + 1, m, nd, h1, h2, hk => by
    show bindC kindOf ((p, w) :: P.zip vs) m x = _
    unfold bindC
    exact bindC_get (i := i) (List.nodup_cons.mp nd).2 (by simpa using h1) (by simpa using h2) hk
def start (N : List Str) (vs : List V) : St := vs.map some ++ List.replicate (N.length - vs.length) none
def cxOf (CX : CXT) (P : Program) (w : World) (K : PySem.W.Frag) (mg : Str → Option Value) (base : Heap) (N : List Str) (qual : Str) (scope : Scope) (f : Addr) (cd : Value) (A : Around) (outer : List Env) (s : Shared) (H : Hp) (E : XK) : Cx where
  prog := P
  w := w
  K := K
  mg := mg
  base := base
  A := A.deeper (envOfC qual scope s.heap.objs.size f cd)
  N := N
  s₀ := s
  H₀ := H
  env := envOfC qual scope s.heap.objs.size f cd
  outer := outer
  stack := envOfC qual scope s.heap.objs.size f cd :: outer
  ex := []
  calm := true
  fn := fun _ => true
  pn := []
  xe := fun e s' => wpAny (model P w) (A.deeper (envOfC qual scope s.heap.objs.size f cd)) (leaving (envOfC qual scope s.heap.objs.size f cd) e) (fun _ s'' => CX outer H s E e s'') (fun e' s'' => CX outer H s E e' s'') s'
theorem cell_has {sc : Scope} {n : Nat} {x : Str} (h : sc.names.lookup x = some .cell) : ∃ c, (cellsFrom n sc.names []).lookup x = some c := by
  have q := PySem.W.cellsFrom_some sc.names n [] (.inl h)
  exact Option.isSome_iff_exists.mp q
theorem inv_start {CX : CXT} {P : Program} {w : World} {K : PySem.W.Frag} {mg : Str → Option Value} {base : Heap} {N ps : List Str} {qual : Str} {scope : Scope} {f : Addr} {cd : Value} {A : Around} {outer : List Env} {s s1 : Shared} {H : Hp} {E : XK} {us : List Value} {vs : List V}
    (S : FnScope N ps scope) (hd : A.handled = none) (e0 : Env0 P w K mg base A outer s H) (hl : vs.length = ps.length) (r : Vals vs us)
    (x : InCallC s s.heap.objs.size (bindL (envOfC qual scope s.heap.objs.size f cd).kindOf (ps.zip us) fun _ => none) (cellsFrom (s.heap.objs.size + 1) scope.names []) (bindC (envOfC qual scope s.heap.objs.size f cd).kindOf (ps.zip us) fun _ => none) s1) :
    Inv (cxOf CX P w K mg base N qual scope f cd A outer s H E) [] (start N vs) H s1 := by
  have hpl : ps.length ≤ N.length := by have := congrArg List.length S.pre; rw [List.length_take] at this; omega
  obtain ⟨h1, tk, rfl, hk⟩ := x.done
  have noA : ∀ b : Addr, b ∉ (cxOf CX P w K mg base N qual scope f cd A outer s H E).ex := fun b z => absurd (show b ∈ ([] : List Addr) from z) (by simp)
  refine ⟨⟨e0.mod, S.kind, rfl, rfl, Nat.le_refl _, fun y z c h1 h2 => ?_, fun y hy => ?_, fun y c _ h => ?_, fun _ => hd, Around.frames_deeper e0.frames, .inr ⟨rfl, rfl⟩, fun b z => absurd z (noA b), e0.bs, e0.bsz, fun b _ _ => noA b, fun b z => absurd z (noA b), e0.funs, e0.frf⟩,
    rfl, e0.bare, Un.kept hk, ⟨_, x.toInCall.ns, fun i y v h1 h2 h3 => ?_⟩, fun y c h => ⟨_, x.cell y c h⟩, e0.hok.fresh (Nat.le_refl _), fun y c h => ?_, fun p hp => absurd (show p ∈ ([] : List (Addr × Obj)) from hp) (by simp), e0.hok.kept hk, ?_⟩
  · exact name_of_addr x.apart (PySem.mem_of_lookup h1) (PySem.mem_of_lookup h2)
  · have hy : scope.names.lookup y = some .cell ∨ scope.names.lookup y = some .free := hy
    rcases hy with hy | hy
    · exact cell_has hy
    · exact absurd rfl (S.nofree _ (PySem.mem_of_lookup hy))
  · exact Nat.le_of_lt (x.above y c (PySem.mem_of_lookup h))
  · have hi : i < vs.length := by
      unfold start at h2
      by_cases hi : i < vs.length
      · exact hi
      · rw [List.getElem?_append_right (by simpa using hi)] at h2
        rw [List.getElem?_replicate] at h2
        split at h2 <;> cases h2
    have ha : vs[i]? = some v := by
      unfold start at h2
      rw [List.getElem?_append_left (by simpa using hi), List.getElem?_map] at h2
      cases e : vs[i]? with
      | none => rw [e] at h2; cases h2
      | some a => rw [e] at h2; cases h2; rfl
    obtain ⟨u, hu, rv⟩ := r.get ha
    have hp : ps[i]? = some y := by
      rw [← S.pre, List.getElem?_take_of_lt (by omega)]; exact h1
    have ndP : ps.Nodup := by rw [← S.pre]; exact S.nd.sublist (List.take_sublist _ _)
    refine ⟨u, rv, ?_⟩
    rcases S.par y (List.mem_of_getElem? hp) with k | k
    · exact .inl ⟨k, bindL_get ndP hp hu k⟩
    · obtain ⟨c, e⟩ := cell_has (n := s.heap.objs.size + 1) k
      refine .inr ⟨.inl k, c, e, ?_⟩
      have q := x.cell y c e
      rw [bindC_get ndP hp hu (by show scope.names.lookup y ≠ _; rw [k]; decide)] at q
      exact q
  · exact e0.hok.fresh (Nat.le_of_lt (x.above y c (PySem.mem_of_lookup h)))
  · unfold start
    show _ = N.length
    rw [List.length_append, List.length_map, List.length_replicate]
    omega
theorem fn_of {CX : CXT} {P : Program} {w : World} {K : PySem.W.Frag} {mg : Str → Option Value} {base : Heap} {k : Nat} {f : Addr} {name qual : Str} {params : Arguments} {body : List Stmt} {scope : Scope} {dV kV doc pm cdv ct oc : Value} {an od : Option Addr}
    {osl : Array (Option Value)} {N ps : List Str} {sp : Sp} (lk : K.lookup f = some ⟨oc, od, .func (PySem.W.fnOf name qual params body scope dV kV doc pm an cdv ct), osl⟩) (hcd : PySem.W.codeIn K cdv qual = true) (S : FnScope N ps scope)
    (len : ∀ vs H Q E, sp vs H Q E → vs.length = ps.length)
    (hbody : ∀ (A : Around) (outer : List Env) (s : Shared) (H : Hp) (vs : List V) (Q : VK) (E : XK), Room k (A.deeper (envOfC qual scope s.heap.objs.size f cdv)) → sp vs H Q E →
      ∃ t, PSs (cxOf CX P w K mg base N qual scope f cdv A outer s H E) body t ∧ t { nx := fun _ H' => Q .non H', rt := Q } (start N vs) H) :
    FnOk P w K mg base CX (k + 1) f (PySem.W.fnOf name qual params body scope dV kV doc pm an cdv ct) ps sp := by
  refine ⟨len, fun A outer s H args us vs Q E hr e0 hb r hsp => ?_⟩
  have hl := len _ _ _ _ hsp
  have KX : K.In s.heap := e0.mod.kin.keeps fun b o e => (e0.bs b o e).1
  have lim : s.heap.NoLimit := e0.mod.nolimit.keeps fun b o e => (e0.bs b o e).1
  have hkind : ∀ y ∈ ps.zip us, scope.names.lookup y.1 = some .local ∨ (scope.names.lookup y.1 = some .cell ∧ ((cellsFrom (s.heap.objs.size + 1) scope.names []).lookup y.1).isSome = true) := fun ⟨n, v⟩ hy => by
    rcases S.par n (List.of_mem_zip hy).1 with q | q
    · exact .inl q
    · exact .inr ⟨q, PySem.W.cellsFrom_some _ _ _ (.inl q)⟩
  refine codeAny_call_function hr.depth (KX _ _ lk) rfl S.co S.gen rfl (PySem.W.codeRec_of KX hcd) (hb _ _ _ _ ?_)
  refine wpAny_newFunctionEnv_cells S.kind hkind fun env he s1 x => ?_
  subst he
  refine ⟨lim.keeps x.toInCall.keep, codeAny_func ?_⟩
  obtain ⟨t, ht, hq⟩ := hbody A outer s H vs Q E (hr.deeper _) hsp
  have I : Inv (cxOf CX P w K mg base N qual scope f cdv A outer s H E) [] (start N vs) H s1 := inv_start S hr.hd e0 hl r x
  refine wpAny_mono (ht [] s1 (start N vs) H _ I hq) (fun fl s' hs => ?_) fun e s' hs => hs
  have fin : ∀ {σ' : St} {H' : Hp} {v : V} {u : Value}, Inv (cxOf CX P w K mg base N qual scope f cdv A outer s H E) [] σ' H' s' → RelV v u → Q v H' → CE outer P w H s Q u s' :=
    fun {σ' H' v u} J rv q => ⟨v, H', J.os, J.bare, J.base, J.hok, rv, q⟩
  cases fl with
  | ret u =>
    obtain ⟨v, σ', H', J, rv, q⟩ := hs
    exact fin J rv q
  | next =>
    obtain ⟨σ', H', J, q⟩ := hs
    exact fin (v := V.non) (u := Value.none) J rfl q
  | brk =>
    obtain ⟨_, _, _, q⟩ := hs
    exact False.elim q
  | cont =>
    obtain ⟨_, _, _, q⟩ := hs
    exact False.elim q
end L2
namespace L2
open PySem PySem.Spec PyProof.Rows
section
variable {X : Cx} {x : Str} {p pos : Pos} {e : Expr} {es : List Expr} {t : TA} {id T : String} {r : List V → Hp → VK → Prop}
def tCB (r : List V → Hp → VK → Prop) (t : TA) : TE := fun σ H Q => t σ H fun vs H1 => r vs H1 Q
theorem pe_callB (hc : CallR X (.builtin id) r) (hg : Gl X x) (hm : X.mg x = none) (hv : bootBuiltins x = some (.builtin id)) (ha : PA X (e :: es) t) (hn : x ≠ "__name__" := by decide) (hdb : (x == ("__debug__" : Str)) = false := by decide)
    (he : starEach (e :: es) X.env = (false, eval e X.env) :: starEach es X.env := by rfl) (hpl : (backTo pos (starEach es X.env)).any (·.1) = false := by rfl) : PE X (.Call (.Name x p) (e :: es) [] pos) (tCB r t) := by
  intro pins s σ H Q I h
  refine wpAny_Call_Name_kw (ld_blt I hg hm hv ?_ hn hdb)
  exact PyProof.Rows.callWith_builtin1 (thn (ha pos pins s σ H _ I h) fun us s1 ⟨vs, H1, I1, r1, q1⟩ => hc pins s1 σ H1 vs us Q I1 r1 q1) he hpl
theorem pe_callTy (hc : CallR X (.type T) r) (hg : Gl X x) (hm : X.mg x = none) (hv : bootBuiltins x = some (.type T)) (ha : PA X (e :: es) t) (hn : x ≠ "__name__" := by decide) (hdb : (x == ("__debug__" : Str)) = false := by decide)
    (he : starEach (e :: es) X.env = (false, eval e X.env) :: starEach es X.env := by rfl) (hpl : (backTo pos (starEach es X.env)).any (·.1) = false := by rfl) : PE X (.Call (.Name x p) (e :: es) [] pos) (tCB r t) := by
  intro pins s σ H Q I h
  refine wpAny_Call_Name_kw (ld_blt I hg hm hv ?_ hn hdb)
  exact PyProof.Rows.callWith_type1 (thn (ha pos pins s σ H _ I h) fun us s1 ⟨vs, H1, I1, r1, q1⟩ => hc pins s1 σ H1 vs us Q I1 r1 q1) he hpl
end
end L2
namespace HT
open PySem PyProof.Rows
section
open PySem.SeqAt
open PySem.AutoSeq1 (wpAny_loadPart')
open PySem.MeetsSeq PySem.MeetsSeq2 PySem.MeetsSeq3
end
section
variable {prog : Program} {w : World} {A : Around} {E : Value → Shared → Prop} {s : Shared}
def sIx (n d : Nat) : Option Int → Nat
  | none => d
  | some v => if v < 0 then (v + (n : Int)).toNat else min v.toNat n
end
end HT
namespace L2
open PySem PySem.Spec PyProof.Rows
abbrev TO := St → Hp → (Option Int → Hp → Prop) → Prop
def PO (X : Cx) (e : Option Expr) (t : TO) : Prop :=
  ∀ (pins : List (Addr × Obj)) (s : Shared) (σ : St) (H : Hp) (Q : Option Int → Hp → Prop), Inv X pins σ H s → t σ H Q →
    wpAny (model X.prog X.w) X.A (evalPart e X.env) (fun u s' => ∃ o H', Inv X pins σ H' s' ∧ IsPart u o ∧ Q o H') X.xe s
def tNoPart : TO := fun _ H Q => Q none H
def tPart (t : TE) : TO := fun σ H Q => t σ H fun x H1 => ∃ i, x = .int i ∧ Q (some i) H1
theorem intsAre_of {ns : List Int} : ∀ {us : List Value}, Vals (ns.map V.int) us → IntsAre us ns := by
  induction ns with
  | nil => intro us r; rw [List.map_nil] at r; cases r; exact .nil
  | cons n ns ih =>
    intro us r
    rw [List.map_cons] at r
    cases r with
    | cons r1 r2 =>
      obtain ⟨t, e⟩ := r1
      subst e
      exact .cons n t (ih r2)
section
variable {X : Cx} {e : Expr} {te : TE} {lo hi : Option Expr} {tl th : TO} {pos p2 : Pos}
theorem po_none : PO X none tNoPart := by
  intro pins s σ H Q I h
  rw [evalPart_none]
  exact wpAny_pure ⟨none, H, I, .none, h⟩
theorem po_some (h : PE X e te) : PO X (some e) (tPart te) := by
  intro pins s σ H Q I hw
  rw [evalPart_some]
  refine thn (h pins s σ H _ I hw) fun u s1 ⟨x, H1, I1, r1, q1⟩ => ?_
  obtain ⟨i, rfl, q⟩ := q1
  obtain ⟨t, rfl⟩ := r1
  exact ⟨some i, H1, I1, .int i t, q⟩
def SlR (X : Cx) (r : V → Option Int → Option Int → Hp → VK → Prop) : Prop :=
  ∀ (pins : List (Addr × Obj)) (s : Shared) (σ : St) (H : Hp) (x : V) (v vl vu : Value) (lo hi : Option Int) (sl : Addr) (Q : VK), Inv X pins σ H s → RelV x v → s.heap.IsSliceOf sl vl vu .none → IsPart vl lo → IsPart vu hi → r x lo hi H Q →
    ∃ T id, typeLookup (.type T) "__getitem__" = pure (some (.builtin id)) ∧ s.TypeIs v T ∧ wpAny (model X.prog X.w) X.A (getItem v (.ref sl)) (EP X pins σ Q) X.xe s
theorem SlR.or {r r' : V → Option Int → Option Int → Hp → VK → Prop} (h : SlR X r) (h' : SlR X r') : SlR X (fun x lo hi H Q => r x lo hi H Q ∨ r' x lo hi H Q) := by
  intro pins s σ H x v vl vu lo hi sl Q I rx hs pl pu q
  rcases q with q | q
  · exact h pins s σ H x v vl vu lo hi sl Q I rx hs pl pu q
  · exact h' pins s σ H x v vl vu lo hi sl Q I rx hs pl pu q
def tSl (r : V → Option Int → Option Int → Hp → VK → Prop) (te : TE) (tl th : TO) : TE := fun σ H Q => te σ H fun x H1 => tl σ H1 fun l H2 => th σ H2 fun u H3 => r x l u H3 Q
theorem pe_slice {r : V → Option Int → Option Int → Hp → VK → Prop} (hr : SlR X r) (he : PE X e te) (hl : PO X lo tl) (hu : PO X hi th) : PE X (.Subscript e (.Slice lo hi none p2) pos) (tSl r te tl th) := by
  intro pins s σ H Q I h
  refine Subscript_ (thn (he pins s σ H _ I h) fun v s1 ⟨x, H1, I1, r1, q1⟩ => ?_)
  refine wpAny_Slice (thn (hl pins s1 σ H1 _ I1 q1) fun vl s2 ⟨l, H2, I2, pl, q2⟩ => thn (hu pins s2 σ H2 _ I2 q2) fun vu s3 ⟨u, H3, I3, pu, q3⟩ => ?_)
  rw [evalPart_none]
  refine wpAny_pure ?_
  have I4 : Inv X pins σ H3 { s3 with heap := s3.heap.push { cls := .type "slice", data := .fields #[vl, vu, .none] } } := I3.kept (t' := s3.toks) fun b ob q => Heap.get?_push_of_some _ q
  obtain ⟨T, id, hT, ht, hg⟩ := hr pins { s3 with heap := s3.heap.push { cls := .type "slice", data := .fields #[vl, vu, .none] } } σ H3 x v vl vu l u s3.heap.objs.size Q I4 r1 (Heap.IsSliceOf.new ..) pl pu q3
  show wpAny (model X.prog X.w) X.A (subscriptTail e (.Slice lo hi none p2) v (.ref s3.heap.objs.size)) (EP X pins σ Q) X.xe { s3 with heap := s3.heap.push { cls := .type "slice", data := .fields #[vl, vu, .none] } }
  exact tail_any (ops := [.ref s3.heap.objs.size, v]) ht hT hg (by with_unfolding_all rfl)
def cutV (xs : List V) (lo hi : Option Int) : List V := (xs.drop (HT.sIx xs.length 0 lo)).take (HT.sIx xs.length xs.length hi - HT.sIx xs.length 0 lo)
theorem cutV_length (xs : List V) (lo hi : Option Int) : (cutV xs lo hi).length ≤ xs.length := by
  unfold cutV
  rw [List.length_take, List.length_drop]
  omega
end
end L2
namespace L2
open PySem PySem.Spec PyProof.Rows
def ixN (n : Nat) (i : Int) : Option Nat := if 0 ≤ i then (if i < n then some i.toNat else none) else if -(n : Int) ≤ i then some (i + n).toNat else none
def atI {α : Type} (xs : List α) (i : Int) : Option α := (ixN xs.length i).bind fun j => xs[j]?
theorem ixN_seq {n : Nat} {i : Int} {j : Nat} (h : ixN n i = some j) : seqIndex? i n = some j ∧ j < n ∧ -(n : Int) ≤ i ∧ i < n := by
  unfold ixN at h
  by_cases h0 : 0 ≤ i
  · rw [if_pos h0] at h
    by_cases h1 : i < n
    · rw [if_pos h1] at h
      have e : i.toNat = j := Option.some.inj h
      exact ⟨by rw [seqIndex_of h0 h1, e], by omega, by omega, h1⟩
    · rw [if_neg h1] at h; cases h
  · rw [if_neg h0] at h
    by_cases h1 : -(n : Int) ≤ i
    · rw [if_pos h1] at h
      have e : (i + n).toNat = j := Option.some.inj h
      exact ⟨by rw [seqIndex_neg (by omega) h1, e], by omega, h1, by omega⟩
    · rw [if_neg h1] at h; cases h
theorem atI_get {α : Type} {xs : List α} {i : Int} {v : α} (h : atI xs i = some v) : ∃ j, seqIndex? i xs.length = some j ∧ xs[j]? = some v ∧ j < xs.length ∧ -(xs.length : Int) ≤ i ∧ i < xs.length := by
  unfold atI at h
  cases e : ixN xs.length i with
  | none => rw [e] at h; cases h
  | some j =>
    rw [e] at h
    obtain ⟨h1, h2, h3, h4⟩ := ixN_seq e
    exact ⟨j, h1, h, h2, h3, h4⟩
theorem atI_nat {α : Type} {xs : List α} {j : Nat} {v : α} (h : xs[j]? = some v) : atI xs (j : Int) = some v := by
  have hj : j < xs.length := (List.getElem?_eq_some_iff.mp h).1
  have e : ixN xs.length (j : Int) = some j := by
    unfold ixN
    rw [if_pos (by omega), if_pos (by omega)]; simp
  unfold atI; rw [e]; exact h
def PlainIx (b : Expr) : Prop := ∀ o i, subscripted b false o i = operate [o, i] (getItem o i)
def IxR (X : Cx) (r : R2) : Prop :=
  ∀ (value slice : Expr) (pins : List (Addr × Obj)) (s : Shared) (σ : St) (H : Hp) (x y : V) (v u : Value) (Q : VK), Inv X pins σ H s → RelV x v → RelV y u → r x y H Q →
    subscripted slice false v u = operate [v, u] (getItem v u) → wpAny (model X.prog X.w) X.A (subscriptTail value slice v u) (EP X pins σ Q) X.xe s
def MtR (X : Cx) (id : String) (r : V → List V → Hp → VK → Prop) : Prop :=
  ∀ (pins : List (Addr × Obj)) (s : Shared) (σ : St) (H : Hp) (x : V) (xs : List V) (v : Value) (us : List Value) (Q : VK), Inv X pins σ H s → RelV x v → Vals xs us → r x xs H Q →
    wpAny (model X.prog X.w) X.A (call (.builtin id) (v :: us)) (EP X pins σ Q) X.xe s
section
variable {X : Cx} {a b : Expr} {ta tb : TE} {pos : Pos}
theorem IxR.or {r r' : R2} (h : IxR X r) (h' : IxR X r') : IxR X (fun x y H Q => r x y H Q ∨ r' x y H Q) := by
  intro value slice pins s σ H x y v u Q I rx ry q hs
  rcases q with q | q
  · exact h value slice pins s σ H x y v u Q I rx ry q hs
  · exact h' value slice pins s σ H x y v u Q I rx ry q hs
theorem MtR.or {id : String} {r r' : V → List V → Hp → VK → Prop} (h : MtR X id r) (h' : MtR X id r') : MtR X id (fun x xs H Q => r x xs H Q ∨ r' x xs H Q) := by
  intro pins s σ H x xs v us Q I rx rs q
  rcases q with q | q
  · exact h pins s σ H x xs v us Q I rx rs q
  · exact h' pins s σ H x xs v us Q I rx rs q
theorem pe_ix {r : R2} (hr : IxR X r) (ha : PE X a ta) (hb : PE X b tb) (hs : PlainIx b) : PE X (.Subscript a b pos) (tOp r ta tb) := by
  intro pins s σ H Q I h
  exact Subscript_ (binT ha hb I h fun v u s2 x y H2 I2 rx ry q => hr a b pins s2 σ H2 x y v u Q I2 rx ry q (hs _ _))
def rIxL (K : PySem.W.Frag) : R2 := fun x y H Q => ∃ p xs i v, x = .ref p ∧ y = .int i ∧ SqL K H p xs ∧ atI xs i = some v ∧ Q v H
def rIxT (K : PySem.W.Frag) : R2 := fun x y H Q => ∃ p xs i v, x = .ref p ∧ y = .int i ∧ SqT K H p xs ∧ atI xs i = some v ∧ Q v H
theorem ix_list : IxR X (rIxL X.K) := by
  intro value slice pins s σ H x y v u Q I rx ry h hs
  obtain ⟨p, xs, i, z, rfl, rfl, hq, he, q⟩ := h
  cases rx
  obtain ⟨t, rfl⟩ := ry
  obtain ⟨its, r, pl, hz⟩ := I.list hq
  obtain ⟨j, h1, h2, h3, h4, h5⟩ := atI_get he
  obtain ⟨w, ew, rw'⟩ := r.get h2
  have hl := r.length
  have hn := line63
  have fin : EP X pins σ Q w s := ⟨z, H, I, rw', q⟩
  by_cases h0 : 0 ≤ i
  · have hj : i.toNat = j := by
      rw [seqIndex_of h0 h5] at h1
      exact Option.some.inj h1
    exact item_listR pl.isList h0 (by omega) (by rw [hj]; simpa using ew) fin hs
  · have hj : (i + (its.toArray.size : Int)).toNat = j := by
      rw [seqIndex_neg (by omega) h4] at h1
      rw [List.size_toArray, ← hl]
      exact Option.some.inj h1
    exact subscriptTail_builtinR (x := w) pl.isList.typeIs slot_list_getitem.lookup
      (wpAny_getItem_list_neg (Q := fun r s' => r = w ∧ EP X pins σ Q r s') pl.isList (by omega) (by rw [List.size_toArray] <;> omega) (by omega) (by rw [hj]; simpa using ew) ⟨rfl, fin⟩) hs
theorem ix_tup : IxR X (rIxT X.K) := by
  intro value slice pins s σ H x y v u Q I rx ry h hs
  obtain ⟨p, xs, i, z, rfl, rfl, hq, he, q⟩ := h
  cases rx
  obtain ⟨t, rfl⟩ := ry
  obtain ⟨its, r, pl, hz⟩ := I.tuple hq
  obtain ⟨j, h1, h2, h3, h4, h5⟩ := atI_get he
  obtain ⟨w, ew, rw'⟩ := r.get h2
  have hl := r.length
  have hn := line63
  have fin : EP X pins σ Q w s := ⟨z, H, I, rw', q⟩
  exact subscriptTail_builtinR (x := w) pl.typeIs slot_tuple_getitem.lookup
    (getItem_tuple (j := j) (Q := fun r s' => r = w ∧ EP X pins σ Q r s') pl (by omega) (by omega) (by rw [List.size_toArray, ← hl]; exact h1) (by simpa using ew) ⟨rfl, fin⟩) hs
theorem mapSeq_set (its : List Value) (n j : Nat) (u : Value) : Obj.mapSeq (·.setIfInBounds j u) { cls := .type "list", data := .seq its.toArray n } = { cls := .type "list", data := .seq (its.set j u).toArray n } := by
  simp [Obj.mapSeq]
theorem Inv.lst {pins : List (Addr × Obj)} {σ : St} {H : Hp} {s : Shared} {p : Addr} {xs : List V} (I : Inv X pins σ H s) (h : H p = some (.lst xs)) :
    ∃ (its : List Value) (n : Nat), Vals xs its ∧ s.heap.get? p = some { cls := .type "list", data := .seq its.toArray n } ∧ xs.length ≤ sizeLine := by
  obtain ⟨z, its, n, r, e⟩ := I.hok p _ h
  exact ⟨its, n, r, e, z⟩
theorem Inv.lstUpd {pins : List (Addr × Obj)} {σ : St} {H : Hp} {s : Shared} {p : Addr} {xs ys : List V} {its its' : List Value} {n n' : Nat} {f : Obj → Obj} (I : Inv X pins σ H s) (h : H p = some (.lst xs))
    (ho : s.heap.get? p = some { cls := .type "list", data := .seq its.toArray n }) (hf : f { cls := .type "list", data := .seq its.toArray n } = { cls := .type "list", data := .seq its'.toArray n' }) (r : Vals ys its') (hz : ys.length ≤ sizeLine) (t : Nat) :
    Inv X pins σ (upd H p (.lst ys)) { s with heap := s.heap.update p f, toks := t } := by
  have e : (s.heap.update p f).get? p = some { cls := .type "list", data := .seq its'.toArray n' } := by
    rw [Heap.get?_update_self f ho (by rw [hf] <;> rfl), hf]
  refine I.write (x := p) (e := p) (by rw [h]; trivial) (.inl rfl) (fun b u hb q => (Heap.get?_update_other _ _ (Ne.symm hb)).trans q) ⟨_, e⟩ ?_
  exact ⟨hz, its', n', r, e⟩
def rSetL : V → V → V → Hp → (Hp → Prop) → Prop := fun o i v H Q => ∃ p xs k j, o = .ref p ∧ i = .int k ∧ H p = some (.lst xs) ∧ ixN xs.length k = some j ∧ Q (upd H p (.lst (xs.set j v)))
theorem set_list : PSet X rSetL := by
  intro pins s σ H o i v ov iv u Q I ro ri rv h
  obtain ⟨p, xs, k, j, rfl, rfl, hp, hj, q⟩ := h
  cases ro
  obtain ⟨t, rfl⟩ := ri
  obtain ⟨its, n, r, ho, hz⟩ := I.lst hp
  obtain ⟨h1, h2, h3, h4⟩ := ixN_seq hj
  have hl := r.length
  have hn := line63
  have I' : Inv X pins σ (upd H p (.lst (xs.set j v))) { s with heap := s.heap.update p (Obj.mapSeq (·.setIfInBounds j u)) } :=
    I.lstUpd hp ho (mapSeq_set its n j u) (r.set rv j) (by rw [List.length_set]; exact hz) s.toks
  by_cases h0 : 0 ≤ k
  · have hk : k.toNat = j := by
      rw [seqIndex_of h0 h4] at h1
      exact Option.some.inj h1
    exact PySem.W.ki_setAt ho h0 (by omega) (by rw [List.size_toArray, ← hl]; exact h4) (by rw [hk]; exact ⟨_, I', q⟩)
  · have hk : (k + (its.toArray.size : Int)).toNat = j := by
      rw [seqIndex_neg (by omega) h3] at h1
      rw [List.size_toArray, ← hl]
      exact Option.some.inj h1
    exact PySem.W.ki_setBack ho (by omega) (by rw [List.size_toArray, ← hl]; exact h3) (by omega) (by rw [hk]; exact ⟨_, I', q⟩)
theorem slice_bounds (lo hi : Option Int) (n : Nat) : (sliceBounds lo hi none n).1 = ((HT.sIx n 0 lo : Nat) : Int) ∧ (sliceBounds lo hi none n).2.1 = ((HT.sIx n n hi : Nat) : Int) ∧ (sliceBounds lo hi none n).2.2 = 1 := by
  refine ⟨?_, ?_, rfl⟩
  · cases lo with
    | none => simp [sliceBounds, HT.sIx]
    | some i =>
      simp only [sliceBounds, HT.sIx, Option.getD_none, show (1 : Int) > 0 by decide, if_true]
      by_cases h : i < 0
      · simp only [h, if_true] <;> omega
      · simp only [h, if_false] <;> omega
  · cases hi with
    | none => simp [sliceBounds, HT.sIx]
    | some i =>
      simp only [sliceBounds, HT.sIx, Option.getD_none, show (1 : Int) > 0 by decide, if_true]
      by_cases h : i < 0
      · simp only [h, if_true] <;> omega
      · simp only [h, if_false] <;> omega
theorem slicePick_cut (its : List Value) (lo hi : Option Int) : slicePick its.toArray lo hi none = ((its.drop (HT.sIx its.length 0 lo)).take (HT.sIx its.length its.length hi - HT.sIx its.length 0 lo)).toArray := by
  obtain ⟨h1, h2, h3⟩ := slice_bounds lo hi its.toArray.size
  unfold slicePick
  rw [h1, h2, h3]
  simp only [sliceRange_one, pick_run, List.size_toArray] <;> rfl
def rSlL (K : PySem.W.Frag) : V → Option Int → Option Int → Hp → VK → Prop := fun x lo hi H Q => ∃ a xs, x = .ref a ∧ SqL K H a xs ∧ ∀ p, H p = none → Q (.ref p) (upd H p (.lst (cutV xs lo hi)))
theorem sl_list : SlR X (rSlL X.K) := by
  intro pins s σ H x v vl vu lo hi sl Q I rx hs pl pu h
  obtain ⟨a, xs, rfl, hx, q⟩ := h
  cases rx
  obtain ⟨its, r, ht, hz⟩ := I.list hx
  have hlen := r.length
  refine ⟨"list", _, slot_list_getitem.lookup, ht.isList.typeIs, ?_⟩
  refine wpAny_getItem_list_slice ht.isList hs pl pu .none (by simp) ?_ (by rw [List.size_toArray] <;> omega)
  rw [slicePick_cut, ← hlen]
  refine ⟨.ref s.heap.objs.size, _, I.laid (t' := s.toks) (o := .lst (cutV xs lo hi)) (fun b ob q => Heap.get?_push_of_some _ q) (Nat.le_refl _) ?_, rfl, q _ (I.hok.fresh (Nat.le_refl _))⟩
  exact ⟨Nat.le_trans (cutV_length xs lo hi) hz, _, 0, (r.drop (HT.sIx xs.length 0 lo)).take (HT.sIx xs.length xs.length hi - HT.sIx xs.length 0 lo), Heap.get?_push_size _ rfl⟩
def flatV : V → Bool
  | .non => true
  | .bl _ => true
  | .int _ => true
  | .str _ => true
  | _ => false
def eqV : V → V → Bool
  | .non, .non => true
  | .bl a, .bl b => a == b
  | .bl a, .int b => (if a then 1 else 0) == b
  | .int a, .bl b => a == (if b then 1 else 0)
  | .int a, .int b => a == b
  | .str a, .str b => a == b
  | _, _ => false
theorem eqAt_V {A : Around} {s : Shared} {y x : V} {u v : Value} (ry : RelV y u) (rx : RelV x v) (fy : flatV y = true) (fx : flatV x = true) : SeqAt.EqAt A s u v (eqV y x) := by
  cases y with
  | non =>
    cases ry
    cases x with
    | non => cases rx; exact SeqAt.EqAt.same _
    | bl b => cases rx; exact SeqAt.EqAt.none_bool b
    | int b => obtain ⟨t, rfl⟩ := rx; exact SeqAt.EqAt.none_int b t
    | str b => obtain ⟨t, rfl⟩ := rx; exact SeqAt.EqAt.none_str b t
    | _ => exact absurd (show false = true from fx) Bool.false_ne_true
  | bl a =>
    cases ry
    cases x with
    | non => cases rx; exact SeqAt.EqAt.bool_none a
    | bl b => cases rx; exact SeqAt.EqAt.bool_bool a b
    | int b => obtain ⟨t, rfl⟩ := rx; exact SeqAt.EqAt.bool_int a b t
    | str b => obtain ⟨t, rfl⟩ := rx; exact SeqAt.EqAt.bool_str a b t
    | _ => exact absurd (show false = true from fx) Bool.false_ne_true
  | int a =>
    obtain ⟨t', rfl⟩ := ry
    cases x with
    | non => cases rx; exact SeqAt.EqAt.int_none a t'
    | bl b => cases rx; exact SeqAt.EqAt.int_bool a t' b
    | int b => obtain ⟨t, rfl⟩ := rx; exact SeqAt.EqAt.int_int a t' b t
    | str b => obtain ⟨t, rfl⟩ := rx; exact SeqAt.EqAt.int_str a t' b t
    | _ => exact absurd (show false = true from fx) Bool.false_ne_true
  | str a =>
    obtain ⟨t', rfl⟩ := ry
    cases x with
    | non => cases rx; exact SeqAt.EqAt.str_none a t'
    | bl b => cases rx; exact SeqAt.EqAt.str_bool a t' b
    | int b => obtain ⟨t, rfl⟩ := rx; exact SeqAt.EqAt.str_int a t' b t
    | str b => obtain ⟨t, rfl⟩ := rx; exact SeqAt.EqAt.str_str a t' b t
    | _ => exact absurd (show false = true from fx) Bool.false_ne_true
  | _ => exact absurd (show false = true from fy) Bool.false_ne_true
def eqU (x : V) (u : Value) : Bool := match u with
  | .none => eqV .non x
  | .bool b => eqV (.bl b) x
  | .int i _ => eqV (.int i) x
  | .str z _ => eqV (.str z) x
  | _ => false
theorem eqU_of {x y : V} {u : Value} (r : RelV y u) (f : flatV y = true) : eqU x u = eqV y x := by
  cases y with
  | non => cases r; rfl
  | bl b => cases r; rfl
  | int i => obtain ⟨t, rfl⟩ := r; rfl
  | str z => obtain ⟨t, rfl⟩ := r; rfl
  | _ => exact absurd (show false = true from f) Bool.false_ne_true
theorem any_eqU {x : V} : ∀ {xs : List V} {us : List Value}, Vals xs us → xs.all flatV = true → us.any (eqU x) = xs.any fun y => eqV y x
  | _, _, .nil, _ => rfl
  | y :: xs, u :: us, .cons r t, f => by
    rw [List.all_cons, Bool.and_eq_true] at f
    rw [List.any_cons, List.any_cons, eqU_of r f.1, any_eqU t f.2]
theorem mem_eqAt {A : Around} {s : Shared} {x : V} {v : Value} (rx : RelV x v) (fx : flatV x = true) : ∀ {xs : List V} {us : List Value}, Vals xs us → xs.all flatV = true → ∀ u ∈ us, SeqAt.EqAt A s u v (eqU x u)
  | _, _, .nil, _ => fun u hu => by cases hu
  | y :: xs, u :: us, .cons r t, f => fun u' hu => by
    rw [List.all_cons, Bool.and_eq_true] at f
    rcases List.mem_cons.mp hu with rfl | hu
    · rw [eqU_of r f.1]; exact eqAt_V r rx f.1 fx
    · exact mem_eqAt rx fx t f.2 u' hu
def inV (x : V) (xs : List V) : Bool := xs.any fun y => eqV y x
def rIn (K : PySem.W.Frag) (neg : Bool) : R2 := fun x y H Q => ∃ p xs, y = .ref p ∧ (SqL K H p xs ∨ SqT K H p xs) ∧ flatV x = true ∧ xs.all flatV = true ∧ Q (.bl (if neg then !inV x xs else inV x xs)) H
theorem op_in_seq : OpR X (compareOp .In) (rIn X.K false) := by
  intro pins s σ H x y v u Q I rx ry h
  obtain ⟨p, xs, rfl, hq, fx, fs, q⟩ := h
  cases ry
  rcases hq with hq | hq
  · obtain ⟨its, r, pl, hz⟩ := I.list hq
    refine SeqAt.in_listAt (eqU x) pl.isList (fun w hw => mem_eqAt rx fx r fs w (by simpa using hw)) ⟨.bl _, H, I, rfl, ?_⟩
    rw [show its.toArray.any (eqU x) = its.any (eqU x) by simp, any_eqU r fs]
    exact q
  · obtain ⟨its, r, pl, hz⟩ := I.tuple hq
    refine SeqAt.in_tupleAt (eqU x) pl (fun w hw => mem_eqAt rx fx r fs w (by simpa using hw)) ⟨.bl _, H, I, rfl, ?_⟩
    rw [show its.toArray.any (eqU x) = its.any (eqU x) by simp, any_eqU r fs]
    exact q
theorem call_len_seq : CallR X (.builtin "len") (fun xs H Q => ∃ p ys, xs = [.ref p] ∧ (SqL X.K H p ys ∨ SqT X.K H p ys) ∧ Q (.int ys.length) H) := by
  intro pins s σ H xs us Q I r h
  obtain ⟨p, ys, rfl, hq, q⟩ := h
  obtain ⟨u, rfl, rx⟩ := vals1 r
  cases rx
  have hn := line63
  rcases hq with hq | hq
  · obtain ⟨its, r', pl, hz⟩ := I.list hq
    have hlen := r'.length
    exact Calls.call_len_list pl.isList (by simp only [List.size_toArray] <;> omega) ⟨.int ys.length, H, I.tok _, ⟨s.toks + 1, by rw [List.size_toArray, hlen]⟩, q⟩
  · obtain ⟨its, r', pl, hz⟩ := I.tuple hq
    have hlen := r'.length
    exact len_tuple pl (by simp only [List.size_toArray] <;> omega) ⟨.int ys.length, H, I.tok _, ⟨s.toks + 1, by rw [List.size_toArray, hlen]⟩, q⟩
theorem CallR.or {f : Value} {r r' : List V → Hp → VK → Prop} (h : CallR X f r) (h' : CallR X f r') : CallR X f (fun xs H Q => r xs H Q ∨ r' xs H Q) := by
  intro pins s σ H xs us Q I rs q
  rcases q with q | q
  · exact h pins s σ H xs us Q I rs q
  · exact h' pins s σ H xs us Q I rs q
theorem call_list_of : CallR X (.type "list") (fun xs H Q => ∃ p ys, xs = [.ref p] ∧ (SqL X.K H p ys ∨ SqT X.K H p ys) ∧ ∀ l, H l = none → Q (.ref l) (upd H l (.lst ys))) := by
  intro pins s σ H xs us Q I r h
  obtain ⟨p, ys, rfl, hq, q⟩ := h
  obtain ⟨u, rfl, rx⟩ := vals1 r
  cases rx
  have fin : ∀ (its : List Value), Vals ys its → ys.length ≤ sizeLine → ∀ (h' : Heap) (c' : Nat), (∀ b o', s.heap.get? b = some o' → h'.get? b = some o') →
      h'.get? s.heap.objs.size = some { cls := .type "list", dict := none, data := .seq its.toArray c', slots := #[] } → EP X pins σ Q (.ref s.heap.objs.size) { s with heap := h' } := fun its r' hz h' c' kp e =>
    ⟨.ref s.heap.objs.size, _, I.laid (t' := s.toks) kp (Nat.le_refl _) (show ObjOk X.prog X.w _ h' _ (.lst ys) from ⟨hz, its, c', r', e⟩), rfl, q _ (I.hok.fresh (Nat.le_refl _))⟩
  rcases hq with hq | hq
  · obtain ⟨its, r', pl, hz⟩ := I.list hq
    have hlen := r'.length
    obtain ⟨o, ho, hc, n, hd⟩ := pl.isList
    exact call_list_seq p (.inl rfl) ho hc hd (fun h' c' kp e => fin its r' hz h' c' kp e) (by simp only [List.size_toArray] <;> omega)
  · obtain ⟨its, r', pl, hz⟩ := I.tuple hq
    have hlen := r'.length
    obtain ⟨o, ho, hc, n, hd⟩ := pl
    exact call_list_seq p (.inr rfl) ho hc hd (fun h' c' kp e => fin its r' hz h' c' kp e) (by simp only [List.size_toArray] <;> omega)
theorem call_tuple_of : CallR X (.type "tuple") (fun xs H Q => ∃ p ys, xs = [.ref p] ∧ ((SqL X.K H p ys ∧ ∀ l, H l = none → Q (.ref l) (upd H l (.tup ys))) ∨ (SqT X.K H p ys ∧ Q (.ref p) H))) := by
  intro pins s σ H xs us Q I r h
  obtain ⟨p, ys, rfl, h⟩ := h
  obtain ⟨u, rfl, rx⟩ := vals1 r
  cases rx
  rcases h with ⟨hq, q⟩ | ⟨hq, q⟩
  · obtain ⟨its, r', pl, hz⟩ := I.list hq
    have hlen := r'.length
    refine call_tuple_list pl.isList (fun h' kp => ?_) (by simp only [List.size_toArray] <;> omega)
    have I1 : Inv X pins σ H { s with heap := h' } := I.kept (t' := s.toks) kp
    have I2 : Inv X pins σ (upd H h'.objs.size (.tup ys)) { s with heap := h'.push { cls := .type "tuple", data := .seq its.toArray } } :=
      I1.laid (t' := s.toks) (fun b o e => Heap.get?_push_of_some _ e) (Nat.le_refl _) (show ObjOk X.prog X.w _ _ _ (.tup ys) from ⟨hz, its, r', ⟨_, Heap.get?_push_size _ rfl, rfl, _, rfl, rfl⟩⟩)
    exact ⟨.ref h'.objs.size, _, I2, rfl, q _ (I1.hok.fresh (Nat.le_refl _))⟩
  · obtain ⟨its, r', pl, hz⟩ := I.tuple hq
    exact call_tuple_same pl ⟨.ref p, H, I, rfl, q⟩
def tyV (K : PySem.W.Frag) (T : String) (x : V) (H : Hp) : Prop := match x with
  | .str _ => T = "str"
  | .int _ => T = "int"
  | .ref p => (T = "list" ∧ ∃ xs, SqL K H p xs) ∨ (T = "tuple" ∧ ((∃ o, K.lookup p = some o ∧ o.cls = .type "tuple" ∧ o.dict = none) ∨ ∃ xs, H p = some (.tup xs))) ∨
      (T = "dict" ∧ ((∃ kvs, H p = some (.dK kvs)) ∨ ∃ kvs, H p = some (.dT kvs))) ∨ (T = "set" ∧ ∃ S n, H p = some (.set S n))
  | _ => False
theorem tyV_is {pins : List (Addr × Obj)} {σ : St} {H : Hp} {s : Shared} {T : String} {x : V} {v : Value} (I : Inv X pins σ H s) (r : RelV x v) (ty : tyV X.K T x H) :
    s.TypeIs v T ∧ ∀ a, v = .ref a → ∃ ob, s.heap.get? a = some ob ∧ ob.dict = none := by
  cases x with
  | str z =>
    obtain ⟨t, rfl⟩ := r
    cases (show T = "str" from ty)
    exact ⟨typeIs_str s z t, fun _ e => nomatch e⟩
  | int i =>
    obtain ⟨t, rfl⟩ := r
    cases (show T = "int" from ty)
    exact ⟨typeIs_int s i t, fun _ e => nomatch e⟩
  | ref p =>
    cases r
    rcases ty with ⟨rfl, xs, hq⟩ | ⟨rfl, ⟨o, hk, hc, hd⟩ | ⟨xs, hx⟩⟩ | ⟨rfl, hk⟩ | ⟨rfl, S, n, hk⟩
    · obtain ⟨its, _, pl, _⟩ := I.list hq
      refine ⟨pl.isList.typeIs, fun a e => ?_⟩
      cases e
      obtain ⟨o, n, e, c, hd, _⟩ := pl
      exact ⟨o, e, hd⟩
    · refine ⟨⟨o, I.kIn p o hk, hc⟩, fun a e => ?_⟩
      cases e
      exact ⟨o, I.kIn _ o hk, hd⟩
    · obtain ⟨_, its, _, o, h1, h2, n, _, h3⟩ := I.hok p _ hx
      refine ⟨⟨o, h1, h2⟩, fun a e => ?_⟩
      cases e
      exact ⟨o, h1, h3⟩
    · have z : ∃ o, s.heap.get? p = some o ∧ o.ExactDict := by
        rcases hk with ⟨kvs, hk⟩ | ⟨kvs, hk⟩
        · obtain ⟨_, _, _, _, o, _, _, e, ex, _⟩ := I.hok p _ hk
          exact ⟨o, e, ex⟩
        · obtain ⟨_, _, _, _, o, _, _, e, ex, _⟩ := I.hok p _ hk
          exact ⟨o, e, ex⟩
      obtain ⟨o, e, ex⟩ := z
      refine ⟨⟨o, e, ex.1⟩, fun a e2 => ?_⟩
      cases e2
      exact ⟨o, e, ex.2.1⟩
    · obtain ⟨o, _, _, _, e, ex, _⟩ := I.hok p _ hk
      refine ⟨⟨o, e, ex.1⟩, fun a e2 => ?_⟩
      cases e2
      exact ⟨o, e, ex.2.1⟩
  | _ => exact False.elim ty
def tBM0 (K : PySem.W.Frag) (T : String) (r : V → List V → Hp → VK → Prop) (to : TE) : TE := fun σ H Q => to σ H fun x H1 => tyV K T x H1 ∧ r x [] H1 Q
def tBM (K : PySem.W.Frag) (T : String) (r : V → List V → Hp → VK → Prop) (to : TE) (t : TA) : TE := fun σ H Q => to σ H fun x H1 => tyV K T x H1 ∧ t σ H1 fun xs H2 => r x xs H2 Q
variable {o e : Expr} {es : List Expr} {to : TE} {t : TA} {name : Str} {apos cpos : Pos} {T id : String} {r : V → List V → Hp → VK → Prop}
theorem pe_bm0 (pa : PlainAttrs T) (slot : Slot T name id) (hty : typeOf (.builtin id) = pure (.type "method_descriptor")) (hm : MtR X id r) (ho : PE X o to)
    (hbase : attributeBase o name X.env (eval o X.env) = eval o X.env := by rfl) (hline : (apos.endLine == cpos.line) = true := by rfl) : PE X (.Call (.Attribute o name apos) [] [] cpos) (tBM0 X.K T r to) := by
  intro pins s σ H Q I h
  refine wpAny_Call_method0_late hbase hline (thn (ho pins s σ H _ I h) fun v s1 ⟨x, H1, I1, r1, ty, q1⟩ => ?_)
  obtain ⟨h1, h2⟩ := tyV_is I1 r1 ty
  exact ⟨T, id, pa, slot, hty, h1, h2, Calls.callWith_builtin rfl (PySem.evalArgs_none (hm pins s1 σ H1 x [] v [] Q I1 r1 .nil q1))⟩
theorem pe_bm (pa : PlainAttrs T) (slot : Slot T name id) (hty : typeOf (.builtin id) = pure (.type "method_descriptor")) (hm : MtR X id r) (ho : PE X o to) (ha : PA X (e :: es) t)
    (hbase : attributeBase o name X.env (eval o X.env) = eval o X.env := by rfl)
    (hfew : ((backTo cpos (starEach (e :: es) X.env)).all (fun x => !x.1) && (backToKw cpos (keywordEach [] X.env)).all (fun x => x.1.isSome)
      && decide ((e :: es).length + ([] : List Keyword).length + (if ([] : List Keyword).isEmpty then 0 else 1) < 30)) = true := by rfl)
    (hline : (apos.endLine == cpos.line) = true := by rfl) (hs : starEach (e :: es) X.env = (false, eval e X.env) :: starEach es X.env := by rfl) (hplain : (backTo cpos (starEach es X.env)).any (·.1) = false := by rfl) :
    PE X (.Call (.Attribute o name apos) (e :: es) [] cpos) (tBM X.K T r to t) := by
  intro pins s σ H Q I h
  refine wpAny_Call_method_late hbase hfew hline rfl (thn (ho pins s σ H _ I h) fun v s1 ⟨x, H1, I1, r1, ty, q1⟩ => ?_)
  obtain ⟨h1, h2⟩ := tyV_is I1 r1 ty
  refine ⟨T, id, pa, slot, hty, h1, h2, ?_⟩
  have hA := ha cpos pins s1 σ H1 _ I1 q1
  rw [hs] at hA ⊢
  refine Calls.callWith_builtin (by show (false || (backTo cpos (starEach es X.env)).any (·.1)) = false; rw [hplain] <;> rfl) (Calls.evalArgs_plain ?_)
  exact thn hA fun us s2 ⟨vs, H2, I2, r2, q2⟩ => hm pins s2 σ H2 x vs v us Q I2 r1 r2 q2
/- xs.append(e), list.index on a module's tuple .. are MtR facts of 06m -/
end
end L2
namespace L2
open PySem PySem.Spec PyProof.Rows
def MtM (X : Cx) (id : String) (r : V → List V → Hp → VK → Prop) : Prop :=
  ∀ (pins : List (Addr × Obj)) (s : Shared) (σ : St) (H : Hp) (x : V) (xs : List V) (v : Value) (us : List Value) (Q : VK), Inv X pins σ H s → RelV x v → Vals xs us → r x xs H Q →
    wpAny (model X.prog X.w) X.A (call (.builtin id) (v :: us)) (EP X pins σ Q) X.xe s
theorem Vals.one : ∀ {x : V} {us : List Value}, Vals [x] us → ∃ u, us = [u] ∧ RelV x u
  | _, _, .cons r .nil => ⟨_, rfl, r⟩
theorem Vals.two : ∀ {x y : V} {us : List Value}, Vals [x, y] us → ∃ u v, us = [u, v] ∧ RelV x u ∧ RelV y v
  | _, _, _, .cons r (.cons q .nil) => ⟨_, _, rfl, r, q⟩
theorem Vals.zero : ∀ {us : List Value}, Vals [] us → us = []
  | _, .nil => rfl
theorem Vals.dropLast {xs : List V} {us : List Value} (h : Vals xs us) : Vals xs.dropLast us.dropLast := by
  induction h with
  | nil => exact .nil
  | cons r t ih =>
    cases t with
    | nil => exact .nil
    | cons q t' => exact .cons r ih
theorem Vals.eraseIdx : ∀ {xs : List V} {us : List Value} (i : Nat), Vals xs us → Vals (xs.eraseIdx i) (us.eraseIdx i)
  | _, _, _, .nil => .nil
  | _, _, 0, .cons _ t => t
  | _, _, i + 1, .cons r t => .cons r (Vals.eraseIdx i t)
theorem Vals.reverse {xs : List V} {us : List Value} (h : Vals xs us) : Vals xs.reverse us.reverse := by
  induction h with
  | nil => exact .nil
  | cons r t ih => rw [List.reverse_cons, List.reverse_cons]; exact Vals.append ih (.cons r .nil)
theorem Vals.rep {xs : List V} {us : List Value} (h : Vals xs us) : ∀ k : Nat, Vals (List.replicate k xs).flatten (List.replicate k us).flatten
  | 0 => .nil
  | k + 1 => by
    rw [List.replicate_succ, List.replicate_succ, List.flatten_cons, List.flatten_cons]
    exact Vals.append h (Vals.rep h k)
theorem erase_last {α : Type} (l : List α) : l.eraseIdx (l.length - 1) = l.dropLast := by
  induction l with
  | nil => rfl
  | cons a r ih =>
    cases r with
    | nil => rfl
    | cons b r =>
      have e : (a :: b :: r).length - 1 = ((b :: r).length - 1) + 1 := by
        have h1 : (a :: b :: r).length = r.length + 2 := rfl
        have h2 : (b :: r).length = r.length + 1 := rfl
        omega
      rw [e, List.eraseIdx_cons_succ, ih]
      all_goals rfl
theorem foldl_rep (its : List Value) : ∀ (k : Nat) (acc : List Value),
    List.foldl (fun x1 x2 => x1 ++ x2) acc.toArray (List.replicate k its.toArray) = (acc ++ (List.replicate k its).flatten).toArray
  | 0, acc => by simp
  | k + 1, acc => by
    have e : acc.toArray ++ its.toArray = (acc ++ its).toArray := by simp
    have e2 : (acc ++ its) ++ (List.replicate k its).flatten = acc ++ (List.replicate (k + 1) its).flatten := by
      rw [List.replicate_succ, List.flatten_cons, List.append_assoc]
    rw [← e2, ← foldl_rep its k (acc ++ its), ← e, List.replicate_succ, List.foldl_cons]
section
variable {X : Cx} {pins : List (Addr × Obj)} {σ : St} {H : Hp} {s : Shared} {l b : Addr} {xs ys zs : List V}
theorem Inv.lset {its its' : List Value} {n : Nat} {f : Array Value → Array Value} {t' : Nat} (I : Inv X pins σ H s) (hH : H l = some (.lst xs))
    (e : s.heap.get? l = some { cls := .type "list", data := .seq its.toArray n }) (hf : f its.toArray = its'.toArray) (hv : Vals ys its') (hz : ys.length ≤ sizeLine) :
    Inv X pins σ (upd H l (.lst ys)) { s with heap := s.heap.update l (Obj.mapSeq f), toks := t' } := by
  have q := PySem.IsL.update e f
  rw [hf] at q
  refine I.write (x := l) (e := l) (by rw [hH]; exact trivial) (.inl rfl) (fun b' u hb hu => (Heap.get?_update_other s.heap (Obj.mapSeq f) (Ne.symm hb)).trans hu) ⟨_, q⟩ ?_
  exact ⟨hz, its', _, hv, q⟩
theorem Inv.lnew {its : List Value} {t' : Nat} (I : Inv X pins σ H s) (hv : Vals ys its) (hz : ys.length ≤ sizeLine) :
    Inv X pins σ (upd H s.heap.objs.size (.lst ys)) { s with heap := s.heap.push { cls := .type "list", data := .seq its.toArray }, toks := t' } :=
  I.laid (fun _ _ q => Heap.get?_push_of_some _ q) (Nat.le_refl _) ⟨hz, its, 0, hv, Heap.get?_push_size _ rfl⟩
theorem Inv.fresh (I : Inv X pins σ H s) : H s.heap.objs.size = none := I.hok.fresh (Nat.le_refl _)
theorem Inv.lstM (I : Inv X pins σ H s) (hH : H l = some (.lst xs)) : xs.length ≤ sizeLine ∧ ∃ (its : List Value) (n : Nat), Vals xs its ∧ xs.length = its.length ∧ s.heap.get? l = some { cls := .type "list", data := .seq its.toArray n } := by
  obtain ⟨z, its, n, r, e⟩ := I.hok l _ hH
  exact ⟨z, its, n, r, r.length, e⟩
theorem notLongL {n : Nat} (h : n ≤ sizeLine) : Builtin.List.listTooLong n = false := by
  unfold Builtin.List.listTooLong
  exact decide_eq_false (by omega)
end
section
variable {X : Cx}
def rAppend : V → List V → Hp → VK → Prop := fun x vs H Q => ∃ l xs y, x = .ref l ∧ vs = [y] ∧ H l = some (.lst xs) ∧ xs.length < sizeLine ∧ Q .non (upd H l (.lst (xs ++ [y])))
theorem mt_append : MtM X "list.append" rAppend := by
  intro pins s σ H x vs v us Q I rx rv h
  obtain ⟨l, xs, y, rfl, rfl, hH, hz, q⟩ := h
  cases rx
  obtain ⟨u, rfl, ru⟩ := rv.one
  obtain ⟨z, its, n, r, hl, e⟩ := I.lstM hH
  refine call_meets F.slot_list_append ⟨_, e, rfl⟩ F.entry_list_append (F.args_list_append_2 _ _) (PySem.list_append l its.toArray n u (by rw [List.size_toArray]; omega)) ⟨e, ?_⟩
  refine ⟨.non, _, I.lset (its' := its ++ [u]) hH e (by simp) (r.append (.cons ru .nil)) ?_, rfl, q⟩
  rw [List.length_append, List.length_singleton]
  omega
def rPop : V → List V → Hp → VK → Prop := fun x vs H Q => ∃ l xs y, x = .ref l ∧ vs = [] ∧ H l = some (.lst xs) ∧ xs[xs.length - 1]? = some y ∧ Q y (upd H l (.lst xs.dropLast))
theorem mt_pop : MtM X "list.pop" rPop := by
  intro pins s σ H x vs v us Q I rx rv h
  obtain ⟨l, xs, y, rfl, rfl, hH, hy, q⟩ := h
  cases rx
  have hus := rv.zero
  subst hus
  obtain ⟨z, its, n, r, hl, e⟩ := I.lstM hH
  obtain ⟨u, hu, ru⟩ := r.get hy
  have hy' : its.toArray[its.toArray.size - 1]? = some u := by
    show its.toArray[its.length - 1]? = some u
    rw [← Array.getElem?_toList, ← hl]
    exact hu
  refine call_meets F.slot_list_pop ⟨_, e, rfl⟩ F.entry_list_pop (F.args_list_pop_1 _) (MeetsSeq.list_pop_last l its.toArray n u hy' (by rw [List.size_toArray]; omega)) ⟨e, ?_⟩
  refine ⟨y, _, I.lset (its' := its.dropLast) hH e ?_ r.dropLast ?_, ru, q⟩
  · show its.toArray.eraseIdxIfInBounds (its.toArray.size - 1) = its.dropLast.toArray
    rw [List.size_toArray, List.eraseIdxIfInBounds_toArray, erase_last]
  · rw [List.length_dropLast]
    omega
def rCat : R2 := fun x y H Q => ∃ l b xs zs, x = .ref l ∧ y = .ref b ∧ H l = some (.lst xs) ∧ H b = some (.lst zs) ∧ xs.length + zs.length ≤ sizeLine ∧ ∀ p, H p = none → Q (.ref p) (upd H p (.lst (xs ++ zs)))
theorem op_cat : OpR X (binaryOp .Add) rCat := by
  intro pins s σ H x y v u Q I rx ry h
  obtain ⟨l, b, xs, zs, rfl, rfl, hH, hB, hz, q⟩ := h
  cases rx
  cases ry
  obtain ⟨z, its, n, r, hl, e⟩ := I.lstM hH
  obtain ⟨z2, its2, n2, r2, hl2, e2⟩ := I.lstM hB
  refine PySem.P.add_list e e2 ?_ (by rw [List.size_toArray, List.size_toArray]; omega)
  have ea : its.toArray ++ its2.toArray = (its ++ its2).toArray := by simp
  rw [ea]
  exact ⟨.ref _, _, I.lnew (t' := s.toks) (r.append r2) (by rw [List.length_append]; omega), rfl, q _ I.fresh⟩
def rRep : R2 := fun x y H Q => ∃ l k xs, x = .ref l ∧ y = .int k ∧ H l = some (.lst xs) ∧ -(2 ^ 63) ≤ k ∧ k < 2 ^ 63 ∧ xs.length * k.toNat ≤ sizeLine ∧
  ∀ p, H p = none → Q (.ref p) (upd H p (.lst (List.replicate k.toNat xs).flatten))
theorem len_rep {α : Type} (xs : List α) (k : Nat) : (List.replicate k xs).flatten.length = k * xs.length := by
  induction k with
  | zero => simp
  | succ k ih => rw [List.replicate_succ, List.flatten_cons, List.length_append, ih, Nat.succ_mul, Nat.add_comm]
theorem op_rep : OpR X (binaryOp .Mult) rRep := by
  intro pins s σ H x y v u Q I rx ry h
  obtain ⟨l, k, xs, rfl, rfl, hH, h1, h2, hz, q⟩ := h
  cases rx
  obtain ⟨t, rfl⟩ := ry
  obtain ⟨z, its, n, r, hl, e⟩ := I.lstM hH
  have hlen : its.toArray.size * k.toNat ≤ sizeLine := by rw [List.size_toArray, ← hl]; exact hz
  have hcap : ¬ its.toArray.size * k.toNat > (2 ^ 63 - 1) / 8 := by
    have : (sizeLine : Nat) ≤ (2 ^ 63 - 1) / 8 := by decide
    omega
  have hfit : ¬ (!Builtin.List.listFitsIndex k) = true := by
    rw [fitsIndex_both h1 h2]
    exact Bool.false_ne_true
  have hlong : ¬ Builtin.List.listTooLong (its.toArray.size * k.toNat) = true := by
    rw [notLongL hlen]
    exact Bool.false_ne_true
  have hnew : List.foldl (fun x1 x2 => x1 ++ x2) #[] (List.replicate (if its.toArray.isEmpty = true then 0 else k.toNat) its.toArray) = (List.replicate k.toNat its).flatten.toArray := by
    have f0 : ∀ m : Nat, List.foldl (fun x1 x2 => x1 ++ x2) #[] (List.replicate m its.toArray) = (List.replicate m its).flatten.toArray := fun m => by
      have := foldl_rep its m []
      rw [List.nil_append] at this
      exact this
    rw [f0]
    cases its with
    | nil => simp
    | cons a r' => rw [if_neg (by simp)]
  refine wpAny_binaryOp_repeat_ref (T := "list") (U := "int") (by decide) ⟨_, e, rfl⟩ (fun s' => typeIs_int s' k t) noFill_list_mul F.fills_int_mul F.slot_int_rmul repeat_list F.slot_int_index.lookup
    (call_meets F.slot_int_rmul (typeIs_int s k t) F.entry_int_rmul (F.args_int_rmul_2 _ _) (int___rmul___int_list k t l its.toArray n)
      ⟨e, rfl, ⟨_, e, rfl⟩, call_meets F.slot_list_mul ⟨_, e, rfl⟩ F.entry_list_mul (F.args_list_mul_2 _ _) (AutoListH.list___mul___list_int_3 l its.toArray n k t hfit hcap hlong) ⟨e, ?_⟩⟩)
  rw [hnew]
  exact ⟨.ref _, _, I.lnew (t' := s.toks) (r.rep k.toNat) (by rw [len_rep, Nat.mul_comm]; exact hz), rfl, q _ I.fresh⟩
end
section
variable {prog : Program} {w : World} {A : Around} {E : Value → Shared → Prop} {s : Shared}
set_option maxRecDepth 100000 in
end
section
variable {X : Cx}
end
end L2
namespace Att
open PySem PySem.W PySem.Calls PyProof.Rows
theorem ints_of_wellAll {P : Params} {h : Heap} : ∀ (ns : List Int) (vs : List Value), WellAll P h vs (ns.map WData.int) → IntsAre vs ns := by
  intro ns
  induction ns with
  | nil =>
    intro vs w
    rw [List.map_nil] at w
    cases w
    exact .nil
  | cons n ns ih =>
    intro vs w
    rw [List.map_cons] at w
    cases w with
    | cons a b =>
      cases a
      exact .cons _ _ (ih _ b)
theorem script_of {l : OpenLaw} {n : Nat} (hn : l.most = some n) {P : Params} {h : Heap} {args : List WData} {vals : List Value}
    (hpre : l.row.toRowW.claim.pre args = true) (hwl : WellAll P h vals args) :
    ∃ a vs ns, vals = [Value.ref a] ∧ args = [WData.list (ns.map WData.int)] ∧ h.get? a = some { cls := .type "list", data := .seq vs.toArray } ∧ IntsAre vs ns ∧ ns.length ≤ n := by
  have hsh : WShape.hasAll [] args [.list .int] = true := (pre_splitW hpre).1
  have hc : l.pre.holds [] { args := args } = true := (pre_splitW hpre).2
  obtain ⟨d, r, rfl, h1, h2⟩ := hasAllW_cons hsh
  obtain rfl := hasAllW_nil h2
  obtain ⟨xs, rfl, h3⟩ := hasW_list h1
  obtain ⟨ns, rfl⟩ := items_int h3
  have hlen : ns.length ≤ n := by
    unfold OpenLaw.pre at hc
    have h4 : (WTm.not (.lt (.lit (.int (n : Int))) (.len (.arg 0)))).holds [] { args := [.list (ns.map .int)] } = true := by
      have h4 := (holds_andW hc).1
      rw [hn] at h4
      exact h4
    have h5 := condW_of h4 (w_not (w_lt w_lit (w_len_list (w_arg rfl))))
    rw [List.length_map] at h5
    refine Nat.le_of_not_lt fun q => ?_
    have q' : (n : Int) < ((ns.length : Nat) : Int) := by omega
    first
      | (rw [decide_eq_true q'] at h5; exact absurd h5 (by decide))
      | (simp at h5; omega)
  cases hwl with
  | cons w1 w2 =>
    cases w2
    cases w1 with
    | list ho hall => exact ⟨_, _, ns, rfl, rfl, ho, ints_of_wellAll ns _ hall, hlen⟩
theorem post_true (l : OpenLaw) (args : List WData) : l.row.toRowW.claim.post args (.bool true) args = true :=
  postW_of (r := l.row.toRowW) (X := (true == true))
    (show WShape.has [] (.bool true) .bool = true by first | rfl | decide | simp [WShape.has, WShape.arms, WShape.armsAll])
    (show (WTm.eq .res (.lit (.bool true))).value [] { args := args, res := some (.bool true), after := args } = some (.bool (true == true)) from w_eq_bool (w_res rfl) w_lit) rfl
theorem attach_call {l : OpenLaw} {n : Nat} {q : Program} {loose : List Str} {XP : (Str → Option Value) → Heap → Prop} {YP : World → Heap → Prop} {d : DefRec}
    (hn : l.most = some n) (hdf : d.params.defaults = [])
    (call : ∀ (w : World) (s₀ s₁ : Shared) (mg mb : Str → Option Value) (fa : Addr) (o : Obj) (pm cd doc : Value) (a : Addr) (vs : List Value) (ns : List Int),
      Ground q loose [] XP w s₀ mg mb s₁.heap → YP w s₁.heap →
      s₁.heap.get? fa = some o → o.data = .func (docDef d.name d.params d.body d.scope pm cd doc) → s₁.heap.CodeRec cd d.name → mg d.name = some (.ref fa) →
      s₁.heap.get? a = some { cls := .type "list", data := .seq vs.toArray } → IntsAre vs ns → ns.length ≤ n → s₁.gens = #[] →
      codeAny (model l.prog w) callerA (.call (.ref fa) ⟨[.ref a], []⟩) (fun r s' => r = .ok (.ret (.bool true)) ∧ OldK s₁.heap s'.heap ∧ s'.os = s₁.os ∧ AllBare s'.gens) s₁) :
    WalkO q loose XP YP l.row.toRowW d [] (fun f vs => PySem.call f vs) := by
  intro w s₀ s₁ mg mb G Y fa o pm cd doc dV kV ho hd hcd hD hmg hg args vals as hpre hlay hrd hwl hlo
  obtain rfl : dV = .none := Dflts.none hD hdf
  obtain rfl : kV = .none := Dflts.noKw hD
  obtain ⟨a, vs, ns, rfl, rfl, hobj, hints, hlen⟩ := script_of hn hpre hwl
  refine enter_call (codeAny_mono (call w s₀ s₁ mg mb fa o pm cd doc a vs ns G Y ho (fd_plain hd) hcd hmg hobj hints hlen hg) fun r s' hq => ?_)
  obtain ⟨rfl, h2, h3, h4⟩ := hq
  exact ⟨.inl ⟨.bool true, .bool true, [], rfl, fun _ => rfl, .bool true, post_true l _, fun _ => ⟨List.Pairwise.nil, fun _ hm => (nomatch hm)⟩⟩, h2, h3, h4⟩
section
variable {prog : Program} {w : World} {A : Around} {E : Value → Shared → Prop} {s : Shared} {K : Frag}
def ledger (h : Heap) (L d : Addr) : List (Addr × Obj) := (List.range h.objs.size).filterMap fun a => if a = L ∨ a = d then none else (h.get? a).map fun o => (a, o)
end
end Att
namespace L2
open PySem PySem.Spec PyProof.Rows
theorem vals_ints : ∀ {vs : List Value} {ns : List Int}, IntsAre vs ns → Vals (ns.map V.int) vs
  | _, _, .nil => .nil
  | _, _, .cons n t h => .cons ⟨t, rfl⟩ (vals_ints h)
def Only (H : Hp) : Prop := ∀ b, H b = none ∨ ∃ o xs, H b = some (.frz o (.lst xs))
theorem law_call {P : Program} {w : World} {K : PySem.W.Frag} {mg mb : Str → Option Value} {CX : CXT} {k : Nat} {fa a : Addr} {fd : FuncData} {x : Str} {sp : Sp} {s₁ : Shared} {vs : List Value} {ns : List Int}
    (KX : K.In s₁.heap) (hns : s₁.heap.Ns mainGlobals mg) (hb : s₁.heap.Ns builtinsNs mb) (hbb : ∀ x : Str, x ≠ "__name__" → mb x = bootBuiltins x) (hlim : s₁.heap.NoLimit) (hg : s₁.gens = #[])
    (ha : s₁.heap.get? a = some { cls := .type "list", data := .seq vs.toArray }) (hi : IntsAre vs ns) (hl : ns.length ≤ sizeLine) (hr : Room k callerA)
    (F : ∀ base : Heap, K.In base → base.Ns mainGlobals mg → FnOk P w K mg base CX k fa fd [x] sp) (hbind : ∀ (s : Shared) (u : Value), BindsTo s fd ⟨[u], []⟩ [(x, u)])
    (hsp : ∀ H : Hp, Only H → SqL K H a (ns.map V.int) → sp [.ref a] H (fun v _ => v = .bl true) fun _ _ _ => False)
    (hCX : ∀ H e s', CX [] H s₁ (fun _ _ _ => False) e s' → False) :
    codeAny (model P w) callerA (.call (.ref fa) ⟨[.ref a], []⟩) (fun r s' => r = .ok (.ret (.bool true)) ∧ OldK s₁.heap s'.heap ∧ s'.os = s₁.os ∧ AllBare s'.gens) s₁ := by
  have rv := vals_ints hi
  have lenV := hi.length
  have core : ∀ H : Hp, Only H → SqL K H a (ns.map V.int) → HOk P w H s₁.heap → (∀ b, H b ≠ none → b = a) → (H a ≠ none → K.lookup a = none) →
      codeAny (model P w) callerA (.call (.ref fa) ⟨[.ref a], []⟩) (fun r s' => r = .ok (.ret (.bool true)) ∧ OldK s₁.heap s'.heap ∧ s'.os = s₁.os ∧ AllBare s'.gens) s₁ := by
    intro H hO hS hok hA hK
    have base_of : ∀ {b : Addr} {o : Obj}, s₁.heap.get? b = some o → H b = none → (hidT s₁.heap H).get? b = some o := fun e n => hidT_get e n
    have noA : ∀ {b : Addr} {o : Obj} {es : Array DictEntry} {ep : Nat}, s₁.heap.get? b = some o → o.data = .dict es ep → H b = none := fun {b o es ep} e d => by
      cases q : H b with
      | none => rfl
      | some u =>
        have e' : b = a := hA b (by rw [q]; simp)
        subst e'
        rw [ha] at e; cases e
        have d' : Data.seq vs.toArray _ = Data.dict es ep := d
        cases d'
    have nsK : ∀ {b : Addr} {m : Str → Option Value}, s₁.heap.Ns b m → (hidT s₁.heap H).Ns b m := fun {b m} ⟨o, es, ep, e, d, r⟩ => ⟨o, es, ep, base_of e (noA e d), d, r⟩
    have hKb : K.In (hidT s₁.heap H) := fun b o e => base_of (KX b o e) (by
      cases q : H b with
      | none => rfl
      | some u =>
        have e' : b = a := hA b (by rw [q]; simp)
        subst e'
        rw [hK (by rw [q]; simp)] at e; cases e)
    have hM : Mod K mg (hidT s₁.heap H) := ⟨hKb, nsK hns, ⟨mb, nsK hb, hbb⟩, let ⟨mc, h1, h2⟩ := hlim; ⟨mc, nsK h1, h2⟩⟩
    have e0 : Env0 P w K mg (hidT s₁.heap H) callerA [] s₁ H := ⟨rfl, hM, fun b o e => of_hidT e, Nat.le_of_eq (hidT_size _ _), trivial, fun b hb => absurd (show b ∈ ([] : List Addr) from hb) (by simp), hok, .of_eq hg⟩
    refine codeAny_mono ((F _ hKb (nsK hns)).run callerA [] s₁ H ⟨[.ref a], []⟩ [.ref a] [.ref a] _ _ hr e0 (hbind s₁ (.ref a)) (.cons rfl .nil) (hsp H hO hS)) fun r s' h => ?_
    cases r with
    | error e => exact (hCX H e s' h).elim
    | ok fl =>
      cases fl with
      | next => exact False.elim h
      | brk => exact False.elim h
      | cont => exact False.elim h
      | ret u =>
        obtain ⟨v, H', os, bare, un, hok', r', q⟩ := h
        have q' : v = .bl true := q
        subst q'
        obtain rfl : u = Value.bool true := r'
        refine ⟨rfl, OldK.of_keep fun b o e => ?_, os, bare⟩
        cases q : H b with
        | none => exact un.keep b o e q (by intro z; exact absurd (show b ∈ ([] : List Addr) from z) (by simp)) (by simp)
        | some u =>
          rcases hO b with z | ⟨ob, xs, z⟩
          · rw [q] at z; cases z
          · have z2 := un.frzs b ob _ z
            obtain ⟨e1, _⟩ := hok b _ z
            obtain ⟨e2, _⟩ := hok' b _ z2
            rw [e] at e1; cases e1
            exact e2
  cases hk : K.lookup a with
  | some o =>
    have e := KX a o hk
    rw [ha] at e
    cases e
    refine core (fun _ => none) (fun _ => .inl rfl) (.inr ⟨_, vs.toArray, _, hk, rfl, rfl, rfl, by rw [List.size_toArray, lenV]; exact hl, by simpa using rv⟩) (fun b u z => by have z' : (none : Option HO) = some u := z; cases z') (fun b z => absurd rfl z) fun z => absurd rfl z
  | none =>
    refine core (fun b => if b = a then some (.frz { cls := .type "list", data := .seq vs.toArray } (.lst (ns.map V.int))) else none) (fun b => ?_) (.inl (.inr ⟨{ cls := .type "list", data := .seq vs.toArray }, if_pos rfl⟩)) (fun b u z => ?_) (fun b z => ?_) fun _ => hk
    · by_cases hb : b = a
      · exact .inr ⟨_, _, if_pos hb⟩
      · exact .inl (if_neg hb)
    · by_cases hb : b = a
      · have z' := (if_pos hb).symm.trans z
        cases z'
        subst hb
        exact ⟨ha, by rw [List.length_map]; exact hl, vs, _, rv, ha⟩
      · have z' := (if_neg hb).symm.trans z
        cases z'
    · by_cases hb : b = a
      · exact hb
      · exact absurd (if_neg hb) z
end L2
namespace L2
open PySem PySem.Spec PyProof.Rows
abbrev KOf {K : PySem.W.Frag} {h : Heap} (_ : K.In h) : PySem.W.Frag := K
theorem walk_of {l : PySem.W.OpenLaw} {n k : Nat} {q : Program} {loose : List Str} {XP : (Str → Option Value) → Heap → Prop} {YP : World → Heap → Prop} {d : DefRec} {K : Params → PySem.W.Frag} {CX : World → CXT} {sp : World → Sp} {x : Str}
    (hn : l.most = some n) (hn2 : n ≤ sizeLine) (hdf : d.params.defaults = []) (hr : Room k callerA)
    (hY : ∀ (w : World) (h : Heap), YP w h → (K w.params).In h)
    (F : ∀ (w : World) (mg : Str → Option Value) (fa : Addr) (h : Heap), (K w.params).In h → h.Ns mainGlobals mg → mg d.name = some (.ref fa) →
      ∃ fd : FuncData, (∀ (s : Shared) (u : Value), BindsTo s fd ⟨[u], []⟩ [(x, u)]) ∧
        ∀ base : Heap, (K w.params).In base → base.Ns mainGlobals mg → FnOk l.prog w (K w.params) mg base (CX w) k fa fd [x] (sp w))
    (hsp : ∀ (w : World) (H : Hp) (a : Addr) (ns : List Int), ns.length ≤ n → Only H → SqL (K w.params) H a (ns.map V.int) → sp w [.ref a] H (fun v _ => v = .bl true) fun _ _ _ => False)
    (hCX : ∀ (w : World) (H : Hp) (s : Shared) (e : Value) (s' : Shared), CX w [] H s (fun _ _ _ => False) e s' → False) :
    PySem.W.WalkO q loose XP YP l.row.toRowW d [] (fun f vs => PySem.call f vs) := by
  refine Att.attach_call hn hdf fun w s₀ s₁ mg mb fa o pm cd doc a vs ns G Y ho hd hcd hmg hobj hints hlen hg => ?_
  have KX := hY w _ Y
  obtain ⟨fd, hb, hF⟩ := F w mg fa _ KX G.T.g hmg
  exact law_call KX G.T.g G.T.b G.T.builtins G.T.nolimit hg hobj hints (Nat.le_trans hlen hn2) hr hF hb (fun H hO hS => hsp w H a ns hlen hO hS) fun H e s' => hCX w H s₁ e s'
end L2
/- THE LAST THEOREM (shape; LID, My.* are yours):
   My.Adr: a structure of the addresses that your layer names (classes, functions); My.Txt K t: a structure (Prop) of the equations over K;
   My.txt_mk : {K} {implicit addresses ..} (e1 : nsIn K mainGlobals "law" = some (some (.ref f))) (e2 : K.lookup f = some ⟨oc, od, .func (fnOf "law" "law" params body scope dV kV doc pm an cdv ct), sl⟩) (e3 : codeIn K cdv "law" = true) .. : ∃ t, My.Txt K t
set_option maxRecDepth 100000 in
set_option maxHeartbeats 0 in
theorem PySem.Challenge.cw_LID_holds : PySem.Challenge.rw_LID.Holds := by
  w_on; o_law; k_head; (case hw => w_witness2)
  k_fill
  refine L2.walk_of (l := PySem.Challenge.rw_LID) (n := 63) (k := 40) (x := "script") (CX := fun w => ..) (sp := fun _ => My.sp_law) rfl (by decide) rfl ⟨rfl, by decide, by decide⟩ (fun w h Y => PySem.W.kIn_of Y) ?F ?S ?C
  case F =>
    intro w mg fa h KX G hmg
    have T : ∃ t, My.Txt (L2.KOf KX) t := by
      dsimp only [L2.KOf]                          -- K must stand as «<heap const> w.params» for k_is
      refine' My.txt_mk ?e1 ?e2 ?e3 ..
      (case e1 => PySem.W.k_is)                    -- in the order: a name -> its address -> its object -> its parts
      (case e2 => PySem.W.k_is)
      ..
    obtain ⟨t, T⟩ := T
    have e0 := hmg.symm.trans (PySem.W.mg_of KX G T.law)
    cases e0                                       -- fa is the law's own address
    exact ⟨_, fun s u => .of_eq rfl, fun base kb nb => My.law_fn T kb nb⟩     -- if «.of_eq rfl» comes too early: refine' ⟨_, ?b, fun base kb nb => My.law_fn T kb nb⟩; exact fun s u => .of_eq rfl
  case S => exact fun w H a ns hl hO hS => ..
  case C => exact ..
(the tactic k_is has no namespace: write k_is) -/
namespace L2
open PySem PySem.Spec PyProof.Rows
def defArgs (s : Stmt) : Arguments := match s with
  | .FunctionDef _ a _ _ _ _ _ _ _ _ => a
  | _ => { posonlyargs := [], args := [], vararg := none, kwonlyargs := [], kw_defaults := [], kwarg := none, defaults := [] }
def defBody (s : Stmt) : List Stmt := match s with
  | .FunctionDef _ _ b _ _ _ _ _ _ _ => b
  | _ => []
def defScope (s : Stmt) : Scope := match s with
  | .FunctionDef _ _ _ _ _ _ sc _ _ _ => sc
  | _ => { kind := .function, names := [], isGenerator := false, isCoroutine := false }
abbrev CX0 : CXT := fun _ _ _ _ _ _ => False
abbrev E0 : XK := fun _ _ _ => False
theorem pass0 {X : Cx} : Passes CX0 X E0 := fun _ _ _ _ _ _ _ h => h.elim
structure Fun (K : PySem.W.Frag) (x qual : Str) (st : Stmt) (f : Addr) (fd : FuncData) : Prop where
  ex : ∃ (oc : Value) (od : Option Addr) (kV doc pm : Value) (an : Option Addr) (cdv ct : Value) (osl : Array (Option Value)),
    fd = PySem.W.fnOf x qual (defArgs st) (defBody st) (defScope st) .none kV doc pm an cdv ct ∧ K.lookup f = some ⟨oc, od, .func fd, osl⟩ ∧ PySem.W.codeIn K cdv qual = true
  kp : PySem.W.keepIn K (.ref f) = true
section
variable {P : Program} {w : World} {K : PySem.W.Frag} {mg : Str → Option Value} {base : Heap}
theorem Fun.ok {x qual : Str} {st : Stmt} {f : Addr} {fd : FuncData} {N ps : List Str} {k : Nat} {sp : Sp} (F : Fun K x qual st f fd) (S : FnScope N ps (defScope st)) (len : ∀ vs H Q E, sp vs H Q E → vs.length = ps.length)
    (hbody : ∀ (cdv : Value) (A : Around) (outer : List Env) (s : Shared) (H : Hp) (vs : List V) (Q : VK) (E : XK), Room k (A.deeper (envOfC qual (defScope st) s.heap.objs.size f cdv)) → sp vs H Q E →
      ∃ t, PSs (cxOf CX0 P w K mg base N qual (defScope st) f cdv A outer s H E).nox (defBody st) t ∧ t { nx := fun _ H' => Q .non H', rt := Q } (start N vs) H) : FnOk P w K mg base CX0 (k + 1) f fd ps sp := by
  obtain ⟨oc, od, kV, doc, pm, an, cdv, ct, osl, rfl, lk, hcd⟩ := F.ex
  refine fn_of lk hcd S len fun A outer s H vs Q E hr hsp => ?_
  obtain ⟨t, h, q⟩ := hbody cdv A outer s H vs Q E hr hsp
  exact ⟨t, h.nox, q⟩
theorem Fun.binds {x qual : Str} {st : Stmt} {f : Addr} {fd : FuncData} {ps : List Str} (F : Fun K x qual st f fd)
    (h : ∀ (kV doc pm : Value) (an : Option Addr) (cdv ct : Value) (us : List Value), us.length = ps.length → bindArgs (PySem.W.fnOf x qual (defArgs st) (defBody st) (defScope st) .none kV doc pm an cdv ct) ⟨us, []⟩ = pure (ps.zip us)) : Binds K fd ps [] := by
  obtain ⟨oc, od, kV, doc, pm, an, cdv, ct, osl, rfl, lk, hcd⟩ := F.ex
  exact .all (h kV doc pm an cdv ct)
theorem fun_mk {x qual : Str} {st : Stmt} {f : Addr} {oc : Value} {od an : Option Addr} {osl : Array (Option Value)} {kV doc pm cdv ct : Value} (l : K.lookup f = some ⟨oc, od, .func (PySem.W.fnOf x qual (defArgs st) (defBody st) (defScope st) .none kV doc pm an cdv ct), osl⟩)
    (c : PySem.W.codeIn K cdv qual = true) (k : PySem.W.keepIn K (.ref f) = true) : Fun K x qual st f (PySem.W.fnOf x qual (defArgs st) (defBody st) (defScope st) .none kV doc pm an cdv ct) := ⟨⟨oc, od, kV, doc, pm, an, cdv, ct, osl, rfl, l, c⟩, k⟩
end
theorem hu_of {A : Around} {k : Nat} (hr : Room k A) : A.units + 1 < cLine := Nat.lt_of_le_of_lt (Nat.add_le_add_left (by decide : 1 ≤ 64) _) hr.units
section
variable {X : Cx}
theorem pv (i : Nat) {x : Str} {pos : Pos} (hN : X.N[i]? = some x := by rfl) (hv : Vis X.env.scope x := by first | exact Or.inl rfl | exact Or.inr (Or.inl rfl) | exact Or.inr (Or.inr rfl)) (hd : (x == ("__debug__" : Str)) = false := by decide)
    (hcd : (x == ("__classdict__" : Str)) = false := by decide) : PE X (.Name x pos) (tVar i) := pe_var hN hv hd hcd
end
theorem iteF {A B : Prop} (h : B) : if false = true then A else B := by
  rw [if_neg Bool.false_ne_true]
  exact h
theorem ite2 {c A B : Prop} [Decidable c] (h1 : c → A) (h2 : ¬ c → B) : if c then A else B := by
  by_cases h : c
  · rw [if_pos h]
    exact h1 h
  · rw [if_neg h]
    exact h2 h
def Same (H H' : Hp) : Prop := ∀ b o, H b = some o → H' b = some o
theorem Same.refl (H : Hp) : Same H H := fun _ _ h => h
theorem Same.trans {H H1 H2 : Hp} (a : Same H H1) (b : Same H1 H2) : Same H H2 := fun c o h => b c o (a c o h)
theorem Same.free {H H' : Hp} (e : Same H H') {l : Addr} (h : H' l = Option.none) : H l = Option.none := by
  cases q : H l with
  | none => rfl
  | some o =>
    rw [e l o q] at h
    cases h
theorem Same.seq {K : PySem.W.Frag} {H H' : Hp} {a : Addr} {xs : List V} (e : Same H H') (h : SqL K H a xs) : SqL K H' a xs := by
  rcases h with (h | ⟨o, h⟩) | h
  · exact .inl (.inl (e _ _ h))
  · exact .inl (.inr ⟨o, e _ _ h⟩)
  · exact .inr h
end L2
namespace L2
open PySem PySem.Spec PyProof.Rows
section
variable {κ : Type} [DecidableEq κ]
def valV (kvs : List (κ × V)) (k : κ) : Option V := (kvs.find? fun kv => decide (kv.1 = k)).map (·.2)
def putK (kvs : List (κ × V)) (k : κ) (v : V) : List (κ × V) :=
  if (kvs.any fun kv => decide (kv.1 = k)) = true then kvs.map (fun kv => if kv.1 = k then (kv.1, v) else kv) else kvs ++ [(k, v)]
def dropK (kvs : List (κ × V)) (k : κ) : List (κ × V) := kvs.filter fun kv => decide (kv.1 ≠ k)
theorem valV_pos {p : κ × V} {r : List (κ × V)} {k : κ} (e : p.1 = k) : valV (p :: r) k = some p.2 := by simp [valV, List.find?_cons, e]
theorem valV_neg {p : κ × V} {r : List (κ × V)} {k : κ} (e : ¬ p.1 = k) : valV (p :: r) k = valV r k := by simp [valV, List.find?_cons, e]
theorem valV_any (k : κ) : ∀ kvs : List (κ × V), (kvs.any fun kv => decide (kv.1 = k)) = (valV kvs k).isSome
  | [] => rfl
  | p :: r => by
    rw [List.any_cons]
    by_cases e : p.1 = k
    · simp only [valV_pos e, decide_eq_true e, Bool.true_or, Option.isSome_some]
    · rw [valV_neg e, decide_eq_false e, Bool.false_or]; exact valV_any k r
theorem valV_map (k j : κ) (y : V) : ∀ kvs : List (κ × V), valV (kvs.map fun kv => if kv.1 = k then (kv.1, y) else kv) j = (valV kvs j).map fun x => if j = k then y else x
  | [] => rfl
  | p :: r => by
    have ih := valV_map k j y r
    rw [List.map_cons]
    by_cases h : p.1 = k
    · rw [if_pos h]
      by_cases e : p.1 = j
      · rw [valV_pos (p := (p.1, y)) e, valV_pos e, Option.map_some, if_pos (e.symm.trans h)]
      · rw [valV_neg (p := (p.1, y)) e, valV_neg e, ih]
    · rw [if_neg h]
      by_cases e : p.1 = j
      · rw [valV_pos (p := p) e, valV_pos e, Option.map_some, if_neg (fun z => h (e.trans z))]
      · rw [valV_neg (p := p) e, valV_neg e, ih]
theorem valV_snoc (k j : κ) (y : V) : ∀ kvs : List (κ × V), valV kvs k = none → valV (kvs ++ [(k, y)]) j = if j = k then some y else valV kvs j
  | [], _ => by
    by_cases e : k = j
    · rw [if_pos e.symm]; exact valV_pos (p := (k, y)) e
    · rw [if_neg (fun z => e z.symm)]; exact valV_neg (p := (k, y)) e
  | p :: r, hn => by
    rw [List.cons_append]
    have hk : ¬ p.1 = k := fun z => by rw [valV_pos z] at hn; cases hn
    rw [valV_neg hk] at hn
    have ih := valV_snoc k j y r hn
    by_cases e : p.1 = j
    · rw [valV_pos e, valV_pos e, if_neg (fun z => hk (e.trans z))]
    · rw [valV_neg e, valV_neg e, ih]
theorem valV_put (kvs : List (κ × V)) (k j : κ) (y : V) : valV (putK kvs k y) j = if j = k then some y else valV kvs j := by
  unfold putK
  by_cases a : (kvs.any fun kv => decide (kv.1 = k)) = true
  · rw [if_pos a, valV_map]
    rw [valV_any] at a
    by_cases e : j = k
    · obtain ⟨x, hx⟩ := Option.isSome_iff_exists.mp a
      rw [if_pos e, e, hx, Option.map_some, if_pos rfl]
    · rw [if_neg e]
      cases valV kvs j with
      | none => rfl
      | some x => rw [Option.map_some, if_neg e]
  · rw [if_neg a]
    refine valV_snoc k j y kvs ?_
    rw [valV_any] at a
    cases q : valV kvs k with
    | none => rfl
    | some x => rw [q] at a; exact (a rfl).elim
theorem RelO.isSome_eq {o : Option V} {u : Option Value} (r : RelO o u) : o.isSome = u.isSome := by
  cases o with
  | none => cases u with
    | none => rfl
    | some _ => exact (show False from r).elim
  | some _ => cases u with
    | none => exact (show False from r).elim
    | some _ => rfl
theorem RelO.getD {o : Option V} {u : Option Value} {d : V} {d' : Value} (r : RelO o u) (rd : RelV d d') : RelV (o.getD d) (u.getD d') := by
  cases o with
  | none => cases u with
    | none => exact rd
    | some _ => exact (show False from r).elim
  | some _ => cases u with
    | none => exact (show False from r).elim
    | some _ => exact r
theorem KV.val {kvs : List (κ × V)} {vs : List (κ × Value)} (r : KV kvs vs) (k : κ) : RelO (valV kvs k) (valueAt vs k) := by
  unfold KV at r
  induction r with
  | nil => exact True.intro
  | @cons p q ps qs h t ih =>
    obtain ⟨h1, h2⟩ := h
    by_cases e : p.1 = k
    · have e' : q.1 = k := h1.symm.trans e
      have b : valueAt (q :: qs) k = some q.2 := by simp [valueAt, List.find?_cons, e']
      rw [valV_pos e, b]; exact h2
    · have e' : ¬ q.1 = k := fun z => e (h1.trans z)
      have b : valueAt (q :: qs) k = valueAt qs k := by simp [valueAt, List.find?_cons, e']
      rw [valV_neg e, b]; exact ih
theorem KV.any {kvs : List (κ × V)} {vs : List (κ × Value)} (r : KV kvs vs) (k : κ) : (kvs.any fun kv => decide (kv.1 = k)) = vs.any fun kv => decide (kv.1 = k) := by
  unfold KV at r
  induction r with
  | nil => rfl
  | cons h t ih => rw [List.any_cons, List.any_cons, ih, h.1]
theorem KV.repl {kvs : List (κ × V)} {vs : List (κ × Value)} (r : KV kvs vs) (k : κ) {y : V} {u : Value} (ry : RelV y u) :
    KV (kvs.map fun kv => if kv.1 = k then (kv.1, y) else kv) (vs.map fun kv => if kv.1 = k then (kv.1, u) else kv) := by
  unfold KV at r ⊢
  induction r with
  | nil => exact .nil
  | @cons p q ps qs h t ih =>
    rw [List.map_cons, List.map_cons]
    refine .cons ?_ ih
    obtain ⟨h1, h2⟩ := h
    by_cases e : p.1 = k
    · rw [if_pos e, if_pos (h1.symm.trans e)]; exact ⟨h1, ry⟩
    · rw [if_neg e, if_neg (fun z => e (h1.trans z))]; exact ⟨h1, h2⟩
theorem KV.put {kvs : List (κ × V)} {vs : List (κ × Value)} (r : KV kvs vs) (k : κ) {y : V} {u : Value} (ry : RelV y u) : KV (putK kvs k y) (stored vs k u) := by
  unfold putK stored
  rw [r.any k]
  by_cases e : (vs.any fun kv => decide (kv.1 = k)) = true
  · rw [if_pos e, if_pos e]; exact r.repl k ry
  · rw [if_neg e, if_neg e]; exact Paired.snoc r ⟨rfl, ry⟩
theorem KV.drop {kvs : List (κ × V)} {vs : List (κ × Value)} (r : KV kvs vs) (k : κ) : KV (dropK kvs k) (without vs k) := by
  unfold KV at r ⊢
  unfold dropK without
  induction r with
  | nil => exact .nil
  | @cons p q ps qs h t ih =>
    obtain ⟨h1, h2⟩ := h
    rw [List.filter_cons, List.filter_cons]
    by_cases e : p.1 = k
    · have a : ¬ decide (p.1 ≠ k) = true := by simp [e]
      have b : ¬ decide (q.1 ≠ k) = true := by simp [h1.symm.trans e]
      rw [if_neg a, if_neg b]; exact ih
    · have e' : ¬ q.1 = k := fun z => e (h1.trans z)
      have a : decide (p.1 ≠ k) = true := by simp [e]
      have b : decide (q.1 ≠ k) = true := by simp [e']
      rw [if_pos a, if_pos b]; exact .cons ⟨h1, h2⟩ ih
theorem KV.keys {kvs : List (κ × V)} {vs : List (κ × Value)} (r : KV kvs vs) : kvs.map (·.1) = vs.map (·.1) := by
  unfold KV at r
  induction r with
  | nil => rfl
  | cons h t ih => rw [List.map_cons, List.map_cons, ih, h.1]
theorem KV.length {kvs : List (κ × V)} {vs : List (κ × Value)} (r : KV kvs vs) : kvs.length = vs.length := Paired.length r
end
theorem kV_is {P : Program} {w : World} {k : Key} {u : Value} (r : RelV (kV k) u) : (mixKind P w).is k u = true := by
  cases k with
  | inl i => obtain ⟨t, e⟩ := (show ∃ t, u = Value.int i t from r); subst e; exact mixKind_int P w i t
  | inr x => obtain ⟨t, e⟩ := (show ∃ t, u = Value.str x t from r); subst e; exact mixKind_str P w x t
abbrev KT (H : Hp) : List (List Key × V) → List (List Key × Addr × Value) → Prop := Paired fun p q => p.1 = q.1 ∧ H q.2.1 = some (.tup (p.1.map kV)) ∧ RelV p.2 q.2.2
theorem KT.val {H : Hp} {kvs : List (List Key × V)} {xs : List (List Key × Addr × Value)} (r : KT H kvs xs) (k : List Key) : RelO (valV kvs k) ((atKey xs k).map (·.2)) := by
  induction r with
  | nil => exact True.intro
  | @cons p q ps qs h t ih =>
    obtain ⟨h1, _, h2⟩ := h
    by_cases e : p.1 = k
    · have e' : q.1 = k := h1.symm.trans e
      have b : atKey (q :: qs) k = some q.2 := by simp [atKey, List.find?_cons, e']
      rw [valV_pos e, b]; exact h2
    · have e' : ¬ q.1 = k := fun z => e (h1.trans z)
      have b : atKey (q :: qs) k = atKey qs k := by simp [atKey, List.find?_cons, e']
      rw [valV_neg e, b]; exact ih
theorem KT.repl {H : Hp} {kvs : List (List Key × V)} {xs : List (List Key × Addr × Value)} (r : KT H kvs xs) (k : List Key) {y : V} {u : Value} (ry : RelV y u) :
    KT H (kvs.map fun kv => if kv.1 = k then (kv.1, y) else kv) (xs.map (putAt k u)) := by
  induction r with
  | nil => exact .nil
  | @cons p q ps qs h t ih =>
    rw [List.map_cons, List.map_cons]
    refine .cons ?_ ih
    obtain ⟨h1, h2, h3⟩ := h
    unfold putAt
    by_cases e : p.1 = k
    · rw [if_pos e, if_pos (h1.symm.trans e)]; exact ⟨h1, h2, ry⟩
    · rw [if_neg e, if_neg (fun z => e (h1.trans z))]; exact ⟨h1, h2, h3⟩
theorem KT.put {H : Hp} {kvs : List (List Key × V)} {xs : List (List Key × Addr × Value)} (r : KT H kvs xs) (k : List Key) {b : Addr} {y : V} {u : Value} (hb : H b = some (.tup (k.map kV))) (ry : RelV y u) :
    KT H (putK kvs k y) (storedH xs k b u) := by
  have e : (kvs.any fun kv => decide (kv.1 = k)) = (atKey xs k).isSome := by
    rw [valV_any, (r.val k).isSome_eq, Option.isSome_map]
  unfold putK storedH
  rw [e]
  by_cases q : (atKey xs k).isSome = true
  · rw [if_pos q, if_pos q]; exact r.repl k ry
  · rw [if_neg q, if_neg q]; exact Paired.snoc r ⟨rfl, hb, ry⟩
theorem KT.keeps {H H' : Hp} {kvs : List (List Key × V)} {xs : List (List Key × Addr × Value)} (r : KT H kvs xs) (ht : ∀ b ys, H b = some (.tup ys) → H' b = some (.tup ys)) : KT H' kvs xs :=
  Paired.mapP r fun _ _ z => ⟨z.1, ht _ _ z.2.1, z.2.2⟩
section
variable {P : Program} {w : World} {H : Hp} {h : Heap} {a : Addr}
end
def DGet (H : Hp) (a : Addr) (y : V) (r : Option V) : Prop :=
  (∃ kvs k, Rd H a (.dK kvs) ∧ y = kV k ∧ r = valV kvs k) ∨ ∃ kvs k b, Rd H a (.dT kvs) ∧ y = .ref b ∧ H b = some (.tup (k.map kV)) ∧ r = valV kvs k
def DPut (H : Hp) (a : Addr) (y v : V) (H' : Hp) : Prop :=
  (∃ kvs k, H a = some (.dK kvs) ∧ y = kV k ∧ kvs.length < sizeLine ∧ H' = upd H a (.dK (putK kvs k v))) ∨
  ∃ kvs k b, H a = some (.dT kvs) ∧ y = .ref b ∧ H b = some (.tup (k.map kV)) ∧ kvs.length < sizeLine ∧ H' = upd H a (.dT (putK kvs k v))
theorem DGet.k {H : Hp} {a : Addr} {kvs : List (Key × V)} {k : Key} (e : H a = some (.dK kvs)) : DGet H a (kV k) (valV kvs k) := .inl ⟨kvs, k, .inl e, rfl, rfl⟩
theorem DGet.t {H : Hp} {a b : Addr} {kvs : List (List Key × V)} {k : List Key} (e : H a = some (.dT kvs)) (eb : H b = some (.tup (k.map kV))) : DGet H a (.ref b) (valV kvs k) := .inr ⟨kvs, k, b, .inl e, rfl, eb, rfl⟩
theorem DPut.k {H : Hp} {a : Addr} {kvs : List (Key × V)} {k : Key} {v : V} (e : H a = some (.dK kvs)) (hl : kvs.length < sizeLine) : DPut H a (kV k) v (upd H a (.dK (putK kvs k v))) := .inl ⟨kvs, k, e, rfl, hl, rfl⟩
theorem DPut.t {H : Hp} {a b : Addr} {kvs : List (List Key × V)} {k : List Key} {v : V} (e : H a = some (.dT kvs)) (eb : H b = some (.tup (k.map kV))) (hl : kvs.length < sizeLine) :
    DPut H a (.ref b) v (upd H a (.dT (putK kvs k v))) := .inr ⟨kvs, k, b, e, rfl, eb, hl, rfl⟩
section
variable {X : Cx} {pins : List (Addr × Obj)} {σ : St} {H : Hp} {s : Shared} {a : Addr} {y v : V} {u r : Value} {o : Option V} {A : Around} {E : Value → Shared → Prop}
theorem Inv.big (I : Inv X pins σ H s) : sysModules < s.heap.objs.size := by
  have h : mainGlobals < s.heap.objs.size := (I.mod.glob.keeps I.bk).lt
  exact Nat.lt_trans (by decide) h
end
section
variable {X : Cx} {pins : List (Addr × Obj)} {σ : St} {H : Hp} {s : Shared} {a : Addr} {kvs : List (Key × V)} {k : Key} {u : Value} {A : Around} {E : Value → Shared → Prop}
end
def tDGet (td ty : TE) : TE := fun σ H Q => td σ H fun x H1 => ty σ H1 fun y H2 => ∃ a v, x = .ref a ∧ DGet H2 a y (some v) ∧ Q v H2
def tDIn (ty td : TE) : TE := fun σ H Q => ty σ H fun y H1 => td σ H1 fun x H2 => ∃ a o, x = .ref a ∧ DGet H2 a y o ∧ Q (.bl o.isSome) H2
def tDNotIn (ty td : TE) : TE := fun σ H Q => ty σ H fun y H1 => td σ H1 fun x H2 => ∃ a o, x = .ref a ∧ DGet H2 a y o ∧ Q (.bl (!o.isSome)) H2
def sDPut (td ty tv : TE) : TS := fun D σ H => tv σ H fun v H1 => td σ H1 fun x H2 => ty σ H2 fun y H3 => ∃ a H4, x = .ref a ∧ DPut H3 a y v H4 ∧ D.nx σ H4
section
variable {X : Cx} {o i e value : Expr} {pos pos' tpos : Pos} {td ty tv : TE}
end
def tDNewK : TE := fun _ H Q => ∀ p, H p = none → Q (.ref p) (upd H p (.dK []))
section
variable {X : Cx} {pos : Pos}
end
def mergeK (kvs more : List (Key × V)) : List (Key × V) := more.foldl (fun acc kv => putK acc kv.1 kv.2) kvs
theorem KV.merge : ∀ {more : List (Key × V)} {rs : List (Key × Value)} {kvs : List (Key × V)} {vs : List (Key × Value)}, KV more rs → KV kvs vs → KV (mergeK kvs more) (merged vs rs) := by
  intro more rs kvs vs r
  unfold KV at r
  induction r generalizing kvs vs with
  | nil => intro q; exact q
  | @cons p q ps qs h t ih =>
    intro r0
    have e : KV (putK kvs p.1 p.2) (stored vs q.1 q.2) := by
      have := r0.put p.1 h.2
      rw [← h.1]; exact this
    exact ih e
structure M2 (X : Cx) (o : Expr) (m : Str) (apos : Pos) (e f : Expr) (cpos : Pos) : Prop where
  base : attributeBase o m X.env (eval o X.env) = eval o X.env
  few : ((backTo cpos (starEach [e, f] X.env)).all (fun x => !x.1) && (backToKw cpos (keywordEach [] X.env)).all (fun x => x.1.isSome)
    && decide (([e, f] : List Expr).length + ([] : List Keyword).length + (if ([] : List Keyword).isEmpty then 0 else 1) < 30)) = true
  line : (apos.endLine == cpos.line) = true
  trees : backTo cpos (starEach [e, f] X.env) = [(false, eval e X.env), (false, eval f X.env)]
section
variable {X : Cx} {pins : List (Addr × Obj)} {σ : St} {H : Hp} {s : Shared} {a : Addr} {y d : V} {u r : Value} {o : Option V} {A : Around} {E : Value → Shared → Prop}
end
section
variable {X : Cx} {o e f : Expr} {apos cpos : Pos} {td ty tx : TE}
end
section
variable {X : Cx} {pins : List (Addr × Obj)} {σ : St} {H : Hp} {s : Shared} {a : Addr} {kvs : List (Key × V)} {A : Around} {E : Value → Shared → Prop}
end
section
variable {X : Cx} {pins : List (Addr × Obj)} {σ : St} {H : Hp} {s : Shared} {a : Addr} {y : V} {u : Value} {A : Around} {E : Value → Shared → Prop}
end
end L2
namespace L2
open PySem PySem.Spec PyProof.Rows
section
variable {X : Cx}
end
section
variable {κ : Type} [DecidableEq κ]
end
end L2
namespace L2
open PySem PySem.Spec PyProof.Rows
theorem lookup_mem {α : Type} {x : Str} {c : α} : ∀ {l : List (Str × α)}, l.lookup x = some c → (x, c) ∈ l
  | [], h => by cases h
  | (y, d) :: r, h => by
    rw [List.lookup_cons] at h
    cases e : x == y with
    | true =>
      rw [e] at h
      have e' : x = y := eq_of_beq e
      cases h
      subst e'
      exact List.mem_cons_self
    | false =>
      rw [e] at h
      exact List.mem_cons_of_mem _ (lookup_mem h)
def frOf (ix : List Nat) (σ : St) : St := ix.map fun j => (σ[j]?).getD none
def SubP (cs : List (Str × Addr)) : List (Str × Addr) → Prop
  | [] => True
  | p :: r => cs.lookup p.1 = some p.2 ∧ SubP cs r
theorem SubP.of {cs : List (Str × Addr)} : ∀ {cl : List (Str × Addr)}, SubP cs cl → ∀ p ∈ cl, cs.lookup p.1 = some p.2
  | [], _, _, h => by cases h
  | p :: r, ⟨h1, h2⟩, q, hq => by
    rcases List.mem_cons.mp hq with e | e
    · rw [e]; exact h1
    · exact SubP.of h2 q e
def OutP (X : Cx) (scope : Scope) : List Str → List Nat → Prop
  | [], [] => True
  | x :: fr, j :: ix => (X.N[j]? = some x ∧ X.env.kindOf x = some .cell ∧ (relabel scope X.env).names.lookup x = some .cell) ∧ OutP X scope fr ix
  | _, _ => False
theorem OutP.len {X : Cx} {scope : Scope} : ∀ {fr : List Str} {ix : List Nat}, OutP X scope fr ix → fr.length = ix.length
  | [], [], _ => rfl
  | x :: fr, j :: ix, h => by rw [List.length_cons, List.length_cons, OutP.len h.2]
  | [], _ :: _, h => h.elim
  | _ :: _, [], h => h.elim
theorem OutP.get {X : Cx} {scope : Scope} : ∀ {fr : List Str} {ix : List Nat}, OutP X scope fr ix → ∀ (k j : Nat), ix[k]? = some j → ∃ x, fr[k]? = some x ∧ X.N[j]? = some x ∧ X.env.kindOf x = some .cell ∧ (relabel scope X.env).names.lookup x = some .cell
  | [], [], _, k, j, e => by simp at e
  | x :: fr, i :: ix, h, 0, j, e => by
    have e' : i = j := by simpa using e
    subst e'
    exact ⟨x, rfl, h.1⟩
  | x :: fr, i :: ix, h, k + 1, j, e => by
    obtain ⟨y, hy, r⟩ := OutP.get h.2 k j (by simpa using e)
    exact ⟨y, by simpa using hy, r⟩
  | [], _ :: _, h, _, _, _ => h.elim
  | _ :: _, [], h, _, _, _ => h.elim
structure ClOk (X : Cx) (scope : Scope) (own fr : List Str) (ix : List Nat) (cl : List (Str × Addr)) : Prop where
  clos : closureFor scope X.env = pure cl
  kind : scope.kind = .function
  nocell : (scope.names.all fun y => decide (y.2 ≠ .cell)) = true
  names : (scope.names.all fun y => decide (y.2 ≠ .local) || decide (scope.names.lookup y.1 = some .local)) = true
  sub : SubP X.env.cells cl
  has : ((relabel scope X.env).names.all fun y => !(decide (y.2 = .cell) || decide (y.2 = .free)) || (cl.lookup y.1).isSome) = true
  out' : OutP X scope fr ix
section
variable {X : Cx} {scope : Scope} {own fr : List Str} {ix : List Nat} {cl : List (Str × Addr)}
theorem ClOk.len (C : ClOk X scope own fr ix cl) : fr.length = ix.length := C.out'.len
theorem ClOk.out (C : ClOk X scope own fr ix cl) : ∀ (k j : Nat), ix[k]? = some j → ∃ x, fr[k]? = some x ∧ X.N[j]? = some x ∧ Vis X.env.scope x ∧ X.env.kindOf x ≠ some .local ∧ (relabel scope X.env).names.lookup x ≠ some .local := fun k j e => by
  obtain ⟨x, h1, h2, h3, h4⟩ := C.out'.get k j e
  exact ⟨x, h1, h2, .inr (.inl h3), (by rw [h3]; intro z; cases z), (by rw [h4]; intro z; cases z)⟩
theorem ClOk.nocell' (C : ClOk X scope own fr ix cl) : ∀ x ∈ scope.names, x.2 ≠ .cell := fun x hx => of_decide_eq_true (List.all_eq_true.mp C.nocell x hx)
theorem ClOk.names' (C : ClOk X scope own fr ix cl) : ∀ x ∈ scope.names, x.2 = .local → scope.names.lookup x.1 = some .local := fun x hx e => by
  have h := List.all_eq_true.mp C.names x hx
  rw [Bool.or_eq_true] at h
  rcases h with h | h
  · exact absurd e (of_decide_eq_true h)
  · exact of_decide_eq_true h
theorem ClOk.sub' (C : ClOk X scope own fr ix cl) : ∀ x c, cl.lookup x = some c → X.env.cells.lookup x = some c := fun x c h => C.sub.of _ (lookup_mem h)
theorem ClOk.has' (C : ClOk X scope own fr ix cl) : ∀ x, ((relabel scope X.env).names.lookup x = some .cell ∨ (relabel scope X.env).names.lookup x = some .free) → ∃ c, cl.lookup x = some c := fun x hx => by
  have key : ∀ k, (relabel scope X.env).names.lookup x = some k → (k = .cell ∨ k = .free) → ∃ c, cl.lookup x = some c := fun k e hk => by
    have h := List.all_eq_true.mp C.has (x, k) (lookup_mem e)
    rw [Bool.or_eq_true] at h
    rcases h with h | h
    · rcases hk with rfl | rfl
      · simp at h
      · simp at h
    · exact Option.isSome_iff_exists.mp h
  rcases hx with h | h
  · exact key _ h (.inl rfl)
  · exact key _ h (.inr rfl)
end
def cxC (X : Cx) (scope : Scope) (cl : List (Str × Addr)) (ns : List Str) (fp : List Addr) (s : Shared) (H : Hp) : Cx where
  prog := X.prog
  w := X.w
  K := X.K
  mg := X.mg
  base := X.base
  A := X.A
  N := ns
  s₀ := s
  H₀ := H
  env := compEnvC scope cl s.heap.objs.size X.env
  outer := X.stack
  stack := X.stack
  ex := fp
  fn := fun _ => false
  calm := X.calm
  pn := []
  xe := fun _ _ => False
section
variable {X : Cx} {scope : Scope} {own fr : List Str} {ix : List Nat} {cl : List (Str × Addr)} {pins : List (Addr × Obj)} {σ : St} {H : Hp} {s : Shared} {fp : List Addr}
theorem cxC_ok (C : ClOk X scope own fr ix cl) (I : Inv X pins σ H s) (f : ∀ b ∈ fp, FpOk X pins H b) (lt : ∀ b ∈ fp, b < s.heap.objs.size) : (cxC X scope cl (own ++ fr) fp s H).Ok where
  mod := I.ok.mod
  kind := C.kind
  glob := I.ok.glob
  blt := I.ok.blt
  above := Nat.le_refl _
  inj := fun x y c h1 h2 => I.ok.inj x y c (C.sub' x c h1) (C.sub' y c h2)
  has := fun x hx => C.has' x hx
  cab := fun x c h _ => Bool.noConfusion h
  hd := I.ok.hd
  frames := I.ok.frames
  stk := .inl rfl
  exf := fun b hb => ⟨Nat.ne_of_lt (lt b hb), fun x c e => (f b hb).2.2.2.2.1 x c (C.sub' x c e)⟩
  bs := fun b o e => I.bs b o e
  bsz := Nat.le_trans I.ok.bsz I.sz
  noex := fun b o e hb => by
    rcases (f b hb).2.2.2.1 with z | z
    · exact I.ok.noex b o e z
    · exact absurd (Nat.lt_of_lt_of_le (Heap.lt_size e) (Nat.le_trans I.ok.bsz z)) (Nat.lt_irrefl _)
  exfs := fun b hb z => by
    rcases List.mem_cons.mp (I.stkSub b z) with q | q
    · exact (f b hb).2.1 q
    · exact (f b hb).2.2.1 q
  funs := I.stack
  frf := I.stkFree
theorem inv_comp (C : ClOk X scope own fr ix cl) (I : Inv X pins σ H s) (f : ∀ b ∈ fp, FpOk X pins H b) (lt : ∀ b ∈ fp, b < s.heap.objs.size) {h₁ : Heap} {t : Nat} {m : Str → Option Value}
    (hns : h₁.Ns s.heap.objs.size m) (k : ∀ b o, s.heap.get? b = some o → h₁.get? b = some o) :
    Inv (cxC X scope cl (own ++ fr) fp s H) [] (List.replicate own.length none ++ frOf ix σ) H { s with heap := h₁, toks := t } where
  ok := cxC_ok C I f lt
  os := rfl
  bare := I.bare
  base := Un.kept k
  loc := ⟨m, hns, fun i x v e1 e2 e3 => by
    have e1 : (own ++ fr)[i]? = some x := e1
    by_cases hi : i < own.length
    · rw [List.getElem?_append_left (by simpa using hi), List.getElem?_replicate] at e2
      rw [if_pos hi] at e2
      cases e2
    · have hi' : own.length ≤ i := Nat.le_of_not_lt hi
      rw [List.getElem?_append_right (by simpa using hi')] at e2
      rw [List.getElem?_append_right hi'] at e1
      rw [List.length_replicate] at e2
      unfold frOf at e2
      rw [List.getElem?_map] at e2
      cases q : ix[i - own.length]? with
      | none => rw [q] at e2; cases e2
      | some j =>
        rw [q] at e2
        have e2' : (σ[j]?).getD none = some v := Option.some.inj e2
        obtain ⟨x', hx', hN, hv, hk, hl'⟩ := C.out _ j q
        rw [e1] at hx'
        cases hx'
        have e4 : σ[j]? = some (some v) := by
          cases z : σ[j]? with
          | none => rw [z] at e2'; cases e2'
          | some w => rw [z] at e2'; exact congrArg some e2'
        obtain ⟨mX, hnX, hl⟩ := I.loc
        obtain ⟨u, r, l⟩ := hl j x v hN e4 hv
        rcases l with ⟨kl, _⟩ | ⟨kk, c, ec, z⟩
        · exact absurd kl hk
        · have kY : (relabel scope X.env).names.lookup x = some .cell ∨ (relabel scope X.env).names.lookup x = some .free := by
            rcases e3 with e3 | e3 | e3
            · exact absurd e3 hl'
            · exact .inl e3
            · exact .inr e3
          obtain ⟨c', hc'⟩ := C.has' x kY
          have hcc := C.sub' x c' hc'
          rw [ec] at hcc
          cases hcc
          obtain ⟨o, ho, hd⟩ := z
          exact ⟨u, r, .inr ⟨kY, c, hc', ⟨o, k c o ho, hd⟩⟩⟩⟩
  cell := fun x c e => by
    obtain ⟨v, o, ho, hd⟩ := I.cell x c (C.sub' x c e)
    exact ⟨v, o, k c o ho, hd⟩
  free := I.hok.fresh (Nat.le_refl _)
  freeC := fun x c e => I.freeC x c (C.sub' x c e)
  pin := fun p hp => by cases hp
  hok := I.hok.kept k
  len := by
    show (List.replicate own.length none ++ frOf ix σ).length = (own ++ fr).length
    rw [List.length_append, List.length_append, List.length_replicate, C.len]
    unfold frOf
    rw [List.length_map]
theorem inv_back (I : Inv X pins σ H s) (f : ∀ b ∈ fp, FpOk X pins H b) {ns : List Str} {τ : St} {H' : Hp} {s' : Shared} {pins' : List (Addr × Obj)} (J : Inv (cxC X scope cl ns fp s H) pins' τ H' s') : Inv X pins σ H' s' :=
  I.call' (ch := fp) J.os J.base J.hok J.bare fun b hb => ⟨(f b hb).2.2.2.1, (f b hb).2.1, (f b hb).2.2.2.2.1, (f b hb).2.2.2.2.2⟩
theorem inv_gone {σ' : St} (I : Inv X pins σ H s) {H' : Hp} {s' : Shared} {h' : Heap} (J : Inv X pins σ' H' s') (free : H' s.heap.objs.size = none) (sb : Heap.SameBut s.heap.objs.size s'.heap h') : Inv X pins σ' H' { s' with heap := h' } :=
  J.turned (it := s.heap.objs.size) (t' := s'.toks) (fun b o hb e => (sb.2 b hb).trans e) free (Nat.ne_of_gt I.lt) (.inr I.sz)
    (fun x c e z => by
      obtain ⟨v, q⟩ := I.cell x c e
      exact absurd (z ▸ q.lt) (Nat.lt_irrefl _))
    (fun p hp z => absurd (z ▸ Heap.lt_size (I.pin p hp).1) (Nat.lt_irrefl _))
end
section
variable {prog : Program} {w : World} {A : Around} {R : Result → Shared → Prop} {s : Shared}
theorem compLoop_any {elt target iter : Expr} {ifs : List Expr} {scope : Scope} {pos : Pos} {it acc : Value} {env : Env} (I : Nat → Shared → Prop)
    (turn : ∀ n s, I n s → wpAny (model prog w) A (pyNext it) (fun r s₁ => match r with
      | none => R (.ok .next) s₁
      | some v => wpAny (model prog w) A (letOwnedTupleGo target it v) (fun _ s₁' => wpAny (model prog w) A (assign target env v) (fun _ s₂ =>
          wpAny (model prog w) A (forIn ifs true fun c r => if r = true then do let ok ← isTrue c env (eval c env); pure (ForInStep.yield ok) else pure (ForInStep.yield r)) (fun ok s₃ =>
            if ok = true then wpAny (model prog w) A (eval elt env) (fun x s₄ =>
              wpAny (model prog w) A (call (.builtin "list.append") [acc, x]) (fun _ s₅ => ∃ m, m < n ∧ I m s₅) (notedBy (model prog w) A env fun e s' => R (.error e) s') s₄) (notedBy (model prog w) A env fun e s' => R (.error e) s') s₃
            else ∃ m, m < n ∧ I m s₃) (notedBy (model prog w) A env fun e s' => R (.error e) s') s₂) (notedBy (model prog w) A env fun e s' => R (.error e) s') s₁') (notedBy (model prog w) A env fun e s' => R (.error e) s') s₁)
        (notedBy (model prog w) A env fun e s' => R (.error e) s') s)
    (n : Nat) (h : I n s) :
    codeAny (model prog w) A (.compLoop (.ListComp elt [⟨target, iter, ifs, 0⟩] scope pos) 0 it acc env) R s := by
  refine codeAny_loop rfl I (fun n s hI => ?_) n h
  show wpAny _ A ((compTurn (.ListComp elt [⟨target, iter, ifs, 0⟩] scope pos) 0 it acc env).onRaise (fun x => do noteFrame x env; theTreesLotGoes x)) _ _ s
  refine wpAny_noted ?_
  rw [compTurn_list]
  refine wpAny_bind (wpAny_standAt (wpAny_bind (wpAny_mono (turn n s hI) (fun r s₁ h₁ => ?_) fun _ _ h' => h')))
  cases r with
  | none => exact wpAny_pure h₁
  | some v =>
    refine wpAny_bind (wpAny_mono h₁ (fun _ s₁' h₁' => ?_) fun _ _ h' => h')
    refine wpAny_bind (wpAny_mono h₁' (fun _ s₂ h₂ => wpAny_bind (wpAny_mono h₂ (fun ok s₃ h₃ => ?_) fun _ _ h' => h')) fun _ _ h' => h')
    cases ok with
    | false => exact wpAny_pure ⟨rfl, h₃⟩
    | true =>
      exact wpAny_bind (wpAny_bind (wpAny_mono h₃ (fun x s₄ h₄ => wpAny_bind (wpAny_mono h₄ (fun _ s₅ h₅ => wpAny_pure (wpAny_pure ⟨rfl, h₅⟩)) fun _ _ h' => h')) fun _ _ h' => h'))
end
def PIfs (X : Cx) (ifs : List Expr) (t : TT) : Prop :=
  ∀ (pins : List (Addr × Obj)) (s : Shared) (σ : St) (H : Hp) (Q : Bool → Hp → Prop), Inv X pins σ H s → t σ H Q →
    wpAny (model X.prog X.w) X.A (forIn ifs true fun c r => if r = true then do let ok ← isTrue c X.env (eval c X.env); pure (ForInStep.yield ok) else pure (ForInStep.yield r)) (TP X pins σ Q) X.xe s
def tNoIf : TT := fun _ H Q => Q true H
theorem pif0 {X : Cx} : PIfs X [] tNoIf := fun pins s σ H Q I h => wpAny_tests_nil ⟨H, I, h⟩
theorem pif1 {X : Cx} {c : Expr} {t : TT} (h : PT X c t) : PIfs X [c] t := fun pins s σ H Q I q => wpAny_tests_one (h pins s σ H Q I q)
def LC (n : Nat) (fr : St) (g : TG) (tc : TT) (te : TE) (J : It) (D : Addr) (H1 : Hp) (Q : Hp → Prop) : Prop :=
  ∃ W : Nat → Nat → Hp → Prop, (∃ m, W 0 m (upd H1 D (.lst []))) ∧ ∀ i m H, W i m H →
    (J.stop i H ∧ Q H) ∨ (J.go i H ∧ ∀ (τ : St) x H', τ.length = n → J.yld i H x H' → g x (τ ++ fr) H' fun σ2 H2 => (∃ τ' : St, τ'.length = n ∧ σ2 = τ' ++ fr) ∧ tc σ2 H2 fun b H3 =>
      if b = true then te σ2 H3 fun y H4 => ∃ ys, H4 D = some (.lst ys) ∧ ys.length < sizeLine ∧ ∃ m', m' < m ∧ W (i + 1) m' (upd H4 D (.lst (ys ++ [y]))) else ∃ m', m' < m ∧ W (i + 1) m' H3)
def tLC (n : Nat) (ix : List Nat) (wi : TI) (g : TG) (tc : TT) (te : TE) : TE := fun σ H Q => wi σ H fun J H1 => ∀ D, H1 D = none → LC n (frOf ix σ) g tc te J D H1 fun H' => Q (.ref D) H'
section
variable {X : Cx} {scope : Scope} {own fr : List Str} {ix : List Nat} {cl : List (Str × Addr)} {elt iter tg : Expr} {ifs : List Expr} {pos : Pos} {wi : TI} {g : TG} {tc : TT} {te : TE}
theorem comp_block {E : Value → Shared → Prop} {RR : Value → Addr → Result → Shared → Prop} (C : ClOk X scope own fr ix cl) (hc : X.calm = true)
    (hg : ∀ fp s H, PG (cxC X scope cl (own ++ fr) fp s H) tg g) (ht : ∀ fp s H, PIfs (cxC X scope cl (own ++ fr) fp s H) ifs tc) (he : ∀ fp s H, PE (cxC X scope cl (own ++ fr) fp s H) elt te)
    {pins : List (Addr × Obj)} {σ : St} {H2 : Hp} {s2 : Shared} {it : Addr} {fp : List Addr} {tn : Nat → Heap → Prop} {J : It} {Q : Hp → Prop} (I2 : Inv X pins σ H2 s2) (T : Turn X.prog X.w X.K tg J fp it tn) (st2 : tn 0 s2.heap) (f2 : ∀ b ∈ fp, FpOk X pins H2 b)
    (q : LC own.length (frOf ix σ) g tc te J s2.heap.objs.size H2 Q)
    (hRR : ∀ (s3 s' : Shared) (H3 H' : Hp) (τ : St), Inv X pins σ H3 s3 → Inv X pins σ H' s' → H' s3.heap.objs.size = none → (∃ m, s'.heap.Ns s3.heap.objs.size m) → Q H' → RR (.ref s2.heap.objs.size) s3.heap.objs.size (.ok .next) s') :
    wpAny (model X.prog X.w) X.A (newList []) (fun acc s₃ => wpAny (model X.prog X.w) X.A (newFunctionEnv scope X.env.globals cl [] X.env.qual none .none (some X.env)) (fun cenv s₄ =>
      codeAny (model X.prog X.w) X.A (.compStart (.ListComp elt [⟨tg, iter, ifs, 0⟩] scope pos) 0 (.ref it) acc { cenv with scope := relabel scope X.env }) (RR acc cenv.locals) s₄) E s₃) E s2 := by
  refine wpAny_newObj_type ?_
  have I3 : Inv X pins σ (upd H2 s2.heap.objs.size (.lst [])) { s2 with heap := s2.heap.push { cls := .type "list", dict := none, data := .seq ([] : List Value).toArray } } := I2.lnew (t' := s2.toks) (its := []) .nil (Nat.zero_le _)
  have lt2 : ∀ b ∈ fp, b < s2.heap.objs.size := fun b hb => by
    obtain ⟨o, e, _⟩ := T.obj 0 _ st2 b hb
    exact Heap.lt_size e
  have fneD : ∀ b ∈ fp, b ≠ s2.heap.objs.size := fun b hb => Nat.ne_of_lt (lt2 b hb)
  generalize hs3 : ({ s2 with heap := s2.heap.push { cls := .type "list", dict := none, data := .seq ([] : List Value).toArray } } : Shared) = s3 at I3 ⊢
  have hsz : s3.heap.objs.size = s2.heap.objs.size + 1 := by rw [← hs3]; exact Heap.size_push ..
  have kp23 : ∀ b o, s2.heap.get? b = some o → s3.heap.get? b = some o := fun b o e => by rw [← hs3]; exact Heap.get?_push_of_some _ e
  have f3 : ∀ b ∈ fp, FpOk X pins (upd H2 s2.heap.objs.size (.lst [])) b := fun b hb => by
    obtain ⟨f0, fr⟩ := f2 b hb
    exact ⟨by rw [upd_ne (fneD b hb)]; exact f0, fr⟩
  have lt3 : ∀ b ∈ fp, b < s3.heap.objs.size := fun b hb => by rw [hsz]; exact Nat.lt_succ_of_lt (lt2 b hb)
  refine wpAny_newFunctionEnv C.nocell' (by intro y hy; simp at hy) (fun h₁ hns₁ hsb₁ => ?_) C.kind
  have k34 : ∀ b o, s3.heap.get? b = some o → h₁.get? b = some o := fun b o e =>
    (hsb₁.2 b (Nat.ne_of_lt (Heap.lt_size e))).trans (Heap.get?_push_of_some _ e)
  have I4 := inv_comp C I3 f3 lt3 (t := s3.toks + ([] : List (Str × Value)).length) hns₁ k34
  have st4 : tn 0 h₁ := T.keep 0 _ _ st2 fun b _ o e => k34 b o (kp23 b o e)
  obtain ⟨W, ⟨m0, w0⟩, turn⟩ := q
  have loop : ∀ s4 : Shared, s4 = { s3 with heap := h₁, toks := s3.toks + ([] : List (Str × Value)).length } →
      codeAny (model X.prog X.w) X.A (.compLoop (.ListComp elt [⟨tg, iter, ifs, 0⟩] scope pos) 0 (.ref it) (.ref s2.heap.objs.size) (compEnvC scope cl s3.heap.objs.size X.env)) (RR (.ref s2.heap.objs.size) s3.heap.objs.size) s4 := by
    rintro s4 rfl
    have stat : ∀ {H' : Hp}, (∀ b ∈ fp, H' b = none) → ∀ b ∈ fp, FpOk (cxC X scope cl (own ++ fr) fp s3 (upd H2 s2.heap.objs.size (.lst []))) [] H' b := fun {H'} hn b hb =>
      ⟨hn b hb, Nat.ne_of_lt (lt3 b hb), I4.ok.exfs b hb, .inl hb, (I4.ok.exf b hb).2, fun p hp => by cases hp⟩
    refine compLoop_any (fun n s' => ∃ i τ H', τ.length = own.length ∧ Inv (cxC X scope cl (own ++ fr) fp s3 (upd H2 s2.heap.objs.size (.lst []))) [] (τ ++ frOf ix σ) H' s' ∧ tn i s'.heap ∧ (∀ b ∈ fp, H' b = none) ∧ W i n H') ?_ m0
      ⟨0, List.replicate own.length none, _, List.length_replicate, I4, st4, fun b hb => (f3 b hb).1, w0⟩
    rintro n s5 ⟨i, τ, H5, hτ, I5, st5, fr5, w5⟩
    rcases turn i n H5 w5 with ⟨stop, qn⟩ | ⟨go, step⟩
    · refine wpAny_mono (T.done (cxC X scope cl (own ++ fr) fp s3 (upd H2 s2.heap.objs.size (.lst []))) rfl rfl rfl hc i [] s5 _ H5 (fun _ _ => False) I5 (stat fr5) st5 stop) (fun r s6 ⟨hr, I6⟩ => ?_) fun _ _ z => z.elim
      subst hr
      obtain ⟨mm, hmm, _⟩ := I6.loc
      exact hRR s3 s6 _ H5 τ I3 (inv_back I3 f3 I6) I6.free ⟨mm, hmm⟩ qn
    · refine wpAny_mono (T.item (cxC X scope cl (own ++ fr) fp s3 (upd H2 s2.heap.objs.size (.lst []))) rfl rfl rfl hc i [] s5 _ H5 (fun _ _ => False) I5 (stat fr5) st5 go) (fun r s6 ⟨u, hr, h6⟩ => ?_) fun _ _ z => z.elim
      subst hr
      refine wpAny_mono h6 (fun _ s7 ⟨x, H7, I7, r7, y7, st7, fr7⟩ => ?_) fun _ _ z => z.elim
      have I7' := I7.pinned (stat fr7) (T.obj _ _ st7)
      refine wpAny_mono (hg fp s3 _ _ s7 _ H7 x u _ I7' r7 (step τ x H7 hτ y7)) (fun _ s8 ⟨σ8, H8, I8, ⟨τ', hτ', e8⟩, q8⟩ => ?_) fun _ _ z => z.elim
      have fin : ∀ {H9 : Hp} {s9 : Shared}, Inv (cxC X scope cl (own ++ fr) fp s3 (upd H2 s2.heap.objs.size (.lst []))) ([] ++ pinsAt fp s7.heap) σ8 H9 s9 → (∃ m', m' < n ∧ W (i + 1) m' H9) →
          ∃ m, m < n ∧ ∃ i τ H', τ.length = own.length ∧ Inv (cxC X scope cl (own ++ fr) fp s3 (upd H2 s2.heap.objs.size (.lst []))) [] (τ ++ frOf ix σ) H' s9 ∧ tn i s9.heap ∧ (∀ b ∈ fp, H' b = none) ∧ W i m H' := fun {H9 s9} I9 hw => by
        obtain ⟨m', hm, w9⟩ := hw
        refine ⟨m', hm, i + 1, τ', H9, hτ', e8 ▸ I9.unpinned, T.keep _ _ _ st7 fun b hb o e => (I9.pin (b, o) (List.mem_append_right _ (List.mem_append_right _ (mem_pinsAt hb e)))).1, fun b hb => ?_, w9⟩
        obtain ⟨o, e, d⟩ := T.obj _ _ st7 b hb
        exact (I9.pin (b, o) (List.mem_append_right _ (List.mem_append_right _ (mem_pinsAt hb e)))).2.1
      refine wpAny_mono (ht fp s3 _ _ s8 σ8 H8 _ I8 q8) (fun ok s9 ⟨H9, I9, q9⟩ => ?_) fun _ _ z => z.elim
      cases ok with
      | false => exact fin I9 q9
      | true =>
        refine wpAny_mono (he fp s3 _ _ s9 σ8 H9 _ I9 q9) (fun y s10 ⟨v10, H10, I10, r10, ys, hD, hz, q10⟩ => ?_) fun _ _ z => z.elim
        refine wpAny_mono (mt_append (X := cxC X scope cl (own ++ fr) fp s3 (upd H2 s2.heap.objs.size (.lst []))) _ s10 σ8 H10 (.ref s2.heap.objs.size) [v10] _ [y] (fun _ H' => ∃ m', m' < n ∧ W (i + 1) m' H') I10 rfl (.cons r10 .nil) ⟨_, ys, v10, rfl, rfl, hD, hz, q10⟩) (fun _ s11 ⟨_, H11, I11, _, q11⟩ => ?_) fun _ _ z => z.elim
        exact fin I11 q11
  exact codeAny_compStart_list (loop _ rfl) (T.self _ 0 _ _ _ st4 (loop _ rfl))
theorem pe_lc (C : ClOk X scope own fr ix cl) (hc : X.calm = true) (hi : PI X tg iter wi) (hg : ∀ fp s H, PG (cxC X scope cl (own ++ fr) fp s H) tg g)
    (ht : ∀ fp s H, PIfs (cxC X scope cl (own ++ fr) fp s H) ifs tc) (he : ∀ fp s H, PE (cxC X scope cl (own ++ fr) fp s H) elt te)
    (hs : ∀ x, foldedSetIterable iter X.env x = pure x := by intro _; rfl) : PE X (.ListComp elt [⟨tg, iter, ifs, 0⟩] scope pos) (tLC own.length ix wi g tc te) := by
  intro pins s σ H Q I h
  rw [eval_ListComp]
  refine wpAny_comprehension_free (use := none) rfl hs C.clos C.kind C.names' (thn (hi pins s σ H _ I h) fun v s1 h1 => thn h1 fun itv s2 h2 => ?_)
  obtain ⟨it, fp, tn, J, H2, e, I2, T, st2, f2, q⟩ := h2
  subst e
  refine comp_block (RR := fun acc D => compPost (model X.prog X.w) X.A X.xe none (EP X pins σ Q) acc D) C hc hg ht he I2 T st2 f2 (q _ (I2.hok.fresh (Nat.le_refl _))) fun s3 s' H3 H' τ I3 I' hn hm q' => ?_
  obtain ⟨m, hm⟩ := hm
  exact ⟨m, hm, fun h' sb => ⟨.ref s2.heap.objs.size, H', inv_gone I3 I' hn sb, rfl, q'⟩⟩
def tSetLC (i n : Nat) (ix : List Nat) (wi : TI) (g : TG) (tc : TT) (te : TE) : TS := fun D σ H => wi σ H fun J H1 => ∀ l, H1 l = none → LC n (frOf ix σ) g tc te J l H1 fun H' => D.nx (σ.set i (some (.ref l))) H'
theorem ps_setlc {i : Nat} {x : Str} {px spos : Pos} (hN : X.N.Nodup) (hx : X.N[i]? = some x) (hl : Loc X.env.scope x) (C : ClOk X scope own fr ix cl) (hc : X.calm = true) (hi : PI X tg iter wi)
    (hg : ∀ fp s H, PG (cxC X scope cl (own ++ fr) fp s H) tg g) (ht : ∀ fp s H, PIfs (cxC X scope cl (own ++ fr) fp s H) ifs tc) (he : ∀ fp s H, PE (cxC X scope cl (own ++ fr) fp s H) elt te)
    (hsw : swapsWith (.ListComp elt [⟨tg, iter, ifs, 0⟩] scope pos) (some (.Name x px)) spos.line X.env = pure true := by rfl)
    (hs : ∀ x, foldedSetIterable iter X.env x = pure x := by intro _; rfl) (hf : X.fn x = true ∨ X.env.scope.names.lookup x = some .local := by first | exact .inl rfl | exact .inr rfl | assumption) :
    PS X (.Assign [.Name x px] (.ListComp elt [⟨tg, iter, ifs, 0⟩] scope pos) spos) (tSetLC i own.length ix wi g tc te) := by
  intro pins s σ H D I h
  rw [exec_Assign_Name_used _ _ _ _ hsw]
  refine wpAny_bind (wpAny_standAt (wpAny_bind ?_))
  show wpAny _ X.A (do let _ ← comprehension (.ListComp elt [⟨tg, iter, ifs, 0⟩] scope pos) scope X.env _ (newList []) false (eval iter X.env) (some (assign (.Name x px) X.env))) _ _ s
  refine wpAny_bind (wpAny_mono (wpAny_comprehension_free (use := some (assign (.Name x px) X.env)) (Q := fun _ s' => SP X pins D .next s') rfl hs C.clos C.kind C.names'
    (thn (hi pins s σ H _ I h) fun v s1 h1 => thn h1 fun itv s2 h2 => ?_)) (fun _ s' hq => wpAny_pure (wpAny_pure hq)) fun _ _ e => e)
  obtain ⟨it, fp, tn, J, H2, e, I2, T, st2, f2, q⟩ := h2
  subst e
  refine comp_block (RR := fun acc C => compPost (model X.prog X.w) X.A X.xe (some (assign (.Name x px) X.env)) (fun _ s' => SP X pins D .next s') acc C) C hc hg ht he I2 T st2 f2 (q _ (I2.hok.fresh (Nat.le_refl _))) fun s3 s' H3 H' τ I3 I' hn hm q' => ?_
  obtain ⟨m, hm⟩ := hm
  show wpAny _ X.A (assign (.Name x px) X.env (.ref s2.heap.objs.size)) _ _ _
  refine wpAny_assign_Name (store_ok2 I' hN hx hl (v := .ref s2.heap.objs.size) rfl (fun s'' I'' hsb => ?_) hf)
  obtain ⟨a, sba, ha⟩ := hsb
  have hne : s3.heap.objs.size ≠ a := by
    rcases ha with rfl | ha
    · exact Nat.ne_of_gt I3.lt
    · obtain ⟨v, qv⟩ := I3.cell x a ha
      exact Nat.ne_of_gt qv.lt
  exact ⟨m, hm.sameBut sba hne, fun h' sb => ⟨_, H', inv_gone I3 I'' hn sb, q'⟩⟩
end
end L2
namespace L2
open PySem PySem.Spec PyProof.Rows
def Its (z : Str) : It := ⟨fun i _ => i < z.cps.size, fun i H x H' => H' = H ∧ ∃ c, z.cps[i]? = some c ∧ x = .str ⟨#[c]⟩, fun i _ => i = z.cps.size⟩
def iStr (tl : TE) : TI := fun σ H R => tl σ H fun x H1 => ∃ z, x = .str z ∧ R (Its z) H1
section
variable {X : Cx} {tg : Expr}
end
section
variable {X : Cx}
end
def cutS (z : Str) (lo hi : Option Int) : Str := ⟨((z.cps.toList.drop (HT.sIx z.length 0 lo)).take (HT.sIx z.length z.length hi - HT.sIx z.length 0 lo)).toArray⟩
section
variable {X : Cx}
def rSlS : V → Option Int → Option Int → Hp → VK → Prop := fun x lo hi H Q => ∃ z, x = .str z ∧ z.length ≤ sizeLine ∧ Q (.str (cutS z lo hi)) H
theorem call_isinst : CallR X (.builtin "isinstance") (fun xs H Q => ∃ x n t b, xs = [x, .ty n] ∧ TyOf X.K H x t ∧ PySem.W.kitOne X.K t (.type n) = some b ∧ Q (.bl b) H) := by
  intro pins s σ H xs us Q I r h
  obtain ⟨x, n, t, b, rfl, ty, e, q⟩ := h
  obtain ⟨u, u2, rfl, r1, r2⟩ := vals2 r
  cases (show u2 = Value.type n from r2)
  exact isinst_ok I r1 ty e fun tk => ⟨.bl b, H, I.tok tk, rfl, q⟩
end
end L2
namespace L2
open PySem PySem.Spec PyProof.Rows
theorem same_new {H : Hp} {p : Addr} (h : H p = none) (o : HO) : Same H (upd H p o) := fun b u q => by rw [upd_ne (ne_of_none q h)]; exact q
theorem Same.upd {H H' : Hp} {p : Addr} (e : Same H H') (h : H p = none) (o : HO) : Same H (L2.upd H' p o) := fun b u q => by rw [upd_ne (ne_of_none q h)]; exact e b u q
theorem Same.tup {K : PySem.W.Frag} {H H' : Hp} {a : Addr} {xs : List V} (e : Same H H') (h : SqT K H a xs) : SqT K H' a xs := by
  rcases h with (h | ⟨o, h⟩) | h
  · exact .inl (.inl (e _ _ h))
  · exact .inl (.inr ⟨o, e _ _ h⟩)
  · exact .inr h
def Has (P : Program) (w : World) (K : PySem.W.Frag) (mg : Str → Option Value) (base : Heap) (k : Nat) (x : Str) (ps : List Str) (sp : Sp) : Prop :=
  ∃ (f : Addr) (fd : FuncData), FnOk P w K mg base CX0 k f fd ps sp ∧ Binds K fd ps [] ∧ PySem.W.keepIn K (.ref f) = true ∧ mg x = some (.ref f)
theorem Has.up {P : Program} {w : World} {K : PySem.W.Frag} {mg : Str → Option Value} {base : Heap} {j k : Nat} {x : Str} {ps : List Str} {sp : Sp} (h : Has P w K mg base j x ps sp) (l : j ≤ k) : Has P w K mg base k x ps sp := by
  obtain ⟨f, fd, F, r⟩ := h
  exact ⟨f, fd, F.mono l, r⟩
def Def (K : PySem.W.Frag) (mg : Str → Option Value) (x : Str) (st : Stmt) (ps : List Str) : Prop :=
  ∃ (f : Addr) (fd : FuncData), Fun K x x st f fd ∧ Binds K fd ps [] ∧ mg x = some (.ref f)
theorem Def.has {P : Program} {w : World} {K : PySem.W.Frag} {mg : Str → Option Value} {base : Heap} {k : Nat} {x : Str} {st : Stmt} {N ps : List Str} {sp : Sp} (D : Def K mg x st ps) (S : FnScope N ps (defScope st)) (len : ∀ vs H Q E, sp vs H Q E → vs.length = ps.length)
    (hbody : ∀ (f : Addr) (cdv : Value) (A : Around) (outer : List Env) (s : Shared) (H : Hp) (vs : List V) (Q : VK) (E : XK), Room k (A.deeper (envOfC x (defScope st) s.heap.objs.size f cdv)) → sp vs H Q E →
      ∃ t, PSs (cxOf CX0 P w K mg base N x (defScope st) f cdv A outer s H E).nox (defBody st) t ∧ t { nx := fun _ H' => Q .non H', rt := Q } (start N vs) H) : Has P w K mg base (k + 1) x ps sp := by
  obtain ⟨f, fd, F, b, m⟩ := D
  exact ⟨f, fd, F.ok S len fun cdv A outer s H vs Q E hr h => hbody f cdv A outer s H vs Q E hr h, b, F.kp, m⟩
section
variable {X : Cx} {k : Nat} {ps : List Str} {sp : Sp} {x : Str} {p pos : Pos} {e : Expr} {es : List Expr} {t : TA}
theorem pe_has (h : Has X.prog X.w X.K X.mg X.base k x ps sp) (hr : Room k X.A) (ha : PA X (e :: es) t) (hg : Gl X x := by rfl) (hdb : (x == ("__debug__" : Str)) = false := by decide +kernel)
    (he : starEach (e :: es) X.env = (false, eval e X.env) :: starEach es X.env := by rfl) (hpl : (backTo pos (starEach es X.env)).any (·.1) = false := by rfl) :
    PE X (.Call (.Name x p) (e :: es) [] pos) (tCall sp [] E0 t) := by
  obtain ⟨f, fd, F, b, kp, m⟩ := h
  exact pe_call F hr hg m kp b .nil pass0 ha hdb he hpl
end
theorem lc_gen {J : It} {fr : St} {tc : TT} {te : TE} {D : Addr} {H1 : Hp} {Q : Hp → Prop} (n : Nat) (item : Nat → V) (P : Nat → List V → Prop) (hn : n < sizeLine) (hD : H1 D = none)
    (hgo : ∀ i H, i < n → Same H1 H → J.go i H) (hyld : ∀ i H x H', i < n → Same H1 H → J.yld i H x H' → H' = H ∧ x = item i) (hstop : ∀ H, Same H1 H → J.stop n H)
    (h0 : P 0 [])
    (step : ∀ i ys H (G : Hp → Prop) (K' : V → Hp → Prop), i < n → P i ys → ys.length ≤ i → Same H1 H → (∀ H3, Same H H3 → P (i + 1) ys → G H3) → (∀ y H4, Same H H4 → P (i + 1) (ys ++ [y]) → K' y H4) → tc ([some (item i)] ++ fr) H fun b H3 => if b = true then te ([some (item i)] ++ fr) H3 K' else G H3)
    (done : ∀ ys H, P n ys → ys.length ≤ n → Same H1 H → H D = some (.lst ys) → Q H) : LC 1 fr (gName 0) tc te J D H1 Q := by
  refine ⟨fun i m H => m = n - i ∧ i ≤ n ∧ ∃ ys, H D = some (.lst ys) ∧ P i ys ∧ ys.length ≤ i ∧ Same H1 H, ⟨n, by simp, Nat.zero_le _, [], upd_same, h0, Nat.le_refl _, same_new hD _⟩, ?_⟩
  rintro i m H ⟨rfl, hi, ys, hys, hP, hl, hS⟩
  by_cases hlt : i < n
  · refine .inr ⟨hgo i H hlt hS, fun τ x H' hτ hy => ?_⟩
    obtain ⟨e1, e2⟩ := hyld i H x H' hlt hS hy
    subst e1 e2
    obtain ⟨a, rfl⟩ : ∃ a, τ = [a] := by
      match τ, hτ with
      | [a], _ => exact ⟨a, rfl⟩
    refine ⟨⟨[some (item i)], rfl, rfl⟩, step i ys H' (fun H3 => ∃ m', m' < n - i ∧ m' = n - (i + 1) ∧ i + 1 ≤ n ∧ ∃ ys, H3 D = some (.lst ys) ∧ P (i + 1) ys ∧ ys.length ≤ i + 1 ∧ Same H1 H3)
      (fun y H4 => ∃ zs, H4 D = some (.lst zs) ∧ zs.length < sizeLine ∧ ∃ m', m' < n - i ∧ m' = n - (i + 1) ∧ i + 1 ≤ n ∧ ∃ ys, upd H4 D (.lst (zs ++ [y])) D = some (.lst ys) ∧ P (i + 1) ys ∧ ys.length ≤ i + 1 ∧ Same H1 (upd H4 D (.lst (zs ++ [y])))) hlt hP hl hS (fun H3 q1 q2 => ?_) (fun y H4 q1 q2 => ?_)⟩
    · exact ⟨n - (i + 1), by omega, rfl, hlt, ys, q1 _ _ hys, q2, Nat.le_succ_of_le hl, hS.trans q1⟩
    · refine ⟨ys, q1 _ _ hys, by omega, n - (i + 1), by omega, rfl, hlt, ys ++ [y], upd_same, q2, ?_, (hS.trans q1).upd hD _⟩
      rw [List.length_append, List.length_singleton]
      omega
  · have e : i = n := by omega
    subst e
    exact .inl ⟨hstop H hS, done ys H hP hl hS hys⟩
theorem lc_list {K : PySem.W.Frag} {a : Addr} {xs : List V} {fr : St} {tc : TT} {te : TE} {D : Addr} {H1 : Hp} {Q : Hp → Prop} (P : Nat → List V → Prop) (hS : SqL K H1 a xs) (hn : xs.length < sizeLine) (hD : H1 D = none) (h0 : P 0 [])
    (step : ∀ i x ys H (G : Hp → Prop) (K' : V → Hp → Prop), xs[i]? = some x → P i ys → ys.length ≤ i → Same H1 H → (∀ H3, Same H H3 → P (i + 1) ys → G H3) → (∀ y H4, Same H H4 → P (i + 1) (ys ++ [y]) → K' y H4) → tc ([some x] ++ fr) H fun b H3 => if b = true then te ([some x] ++ fr) H3 K' else G H3)
    (done : ∀ ys H, P xs.length ys → ys.length ≤ xs.length → Same H1 H → H D = some (.lst ys) → Q H) : LC 1 fr (gName 0) tc te (Itl K a) D H1 Q := by
  have at' : ∀ i, i < xs.length → xs[i]? = some (xs.getD i .non) := fun i hi => by
    rw [List.getD_eq_getElem?_getD, List.getElem?_eq_getElem hi]
    rfl
  exact lc_gen xs.length (fun i => xs.getD i .non) P hn hD (fun i H hi hs => ⟨xs, _, hs.seq hS, at' i hi⟩)
    (fun i H x H' hi hs hy => ⟨hy.1, Option.some.inj ((hy.2 xs (hs.seq hS)).symm.trans (at' i hi))⟩) (fun H hs => ⟨xs, hs.seq hS, Nat.le_refl _⟩) h0
    (fun i ys H G K' hi hp hl hs hG hK => step i _ ys H G K' (at' i hi) hp hl hs hG hK) done
theorem lc_range {lo : Int} {n : Nat} {fr : St} {tc : TT} {te : TE} {D : Addr} {H1 : Hp} {Q : Hp → Prop} (P : Nat → List V → Prop) (hn : n < sizeLine) (hD : H1 D = none) (h0 : P 0 [])
    (step : ∀ (i : Nat) ys H (G : Hp → Prop) (K' : V → Hp → Prop), i < n → P i ys → ys.length ≤ i → Same H1 H → (∀ H3, Same H H3 → P (i + 1) ys → G H3) → (∀ y H4, Same H H4 → P (i + 1) (ys ++ [y]) → K' y H4) → tc ([some (.int (lo + i))] ++ fr) H fun b H3 => if b = true then te ([some (.int (lo + i))] ++ fr) H3 K' else G H3)
    (done : ∀ ys H, P n ys → ys.length ≤ n → Same H1 H → H D = some (.lst ys) → Q H) : LC 1 fr (gName 0) tc te (Itr lo n) D H1 Q :=
  lc_gen n (fun i => .int (lo + i)) P hn hD (fun i H hi _ => hi) (fun i H x H' hi hs hy => hy) (fun H hs => Nat.le_refl _) h0 step done
end L2
namespace L2
open PySem PySem.Spec PyProof.Rows
section
variable {X : Cx} {x : Str} {pos : Pos}
theorem pe_gref {a : Addr} (hm : X.mg x = some (.ref a)) (hg : Gl X x := by rfl) (hd : (x == ("__debug__" : Str)) = false := by decide +kernel) : PE X (.Name x pos) (tC (.ref a)) := pe_glob hg hm rfl hd
theorem pe_gty {T : String} (hm : X.mg x = none) (hv : bootBuiltins x = some (.type T)) (hg : Gl X x := by rfl) (hn : x ≠ "__name__" := by decide +kernel) (hd : (x == ("__debug__" : Str)) = false := by decide +kernel) : PE X (.Name x pos) (tC (.ty T)) := pe_bltn hg hm hv rfl hn hd
end
theorem b_len : bootBuiltins "len" = some (.builtin "len") := by decide +kernel
theorem b_sum : bootBuiltins "sum" = some (.builtin "sum") := by decide +kernel
theorem b_isinstance : bootBuiltins "isinstance" = some (.builtin "isinstance") := by decide +kernel
theorem b_bool : bootBuiltins "bool" = some (.type "bool") := by decide +kernel
theorem b_int : bootBuiltins "int" = some (.type "int") := by decide +kernel
theorem b_list : bootBuiltins "list" = some (.type "list") := by decide +kernel
theorem b_tuple : bootBuiltins "tuple" = some (.type "tuple") := by decide +kernel
theorem b_sorted : bootBuiltins "sorted" = some (.builtin "sorted") := by decide +kernel
end L2
namespace L2
open PySem PySem.Spec PyProof.Rows
theorem len_list (z : Str) : z.length = z.cps.toList.length := by
  show z.cps.size = _
  rw [Array.length_toList]
theorem cxOf_K {CX : CXT} {P : Program} {w : World} {K : PySem.W.Frag} {mg : Str → Option Value} {base : Heap} {N : List Str} {qual : Str} {scope : Scope} {f : Addr} {cd : Value} {A : Around} {outer : List Env} {s : Shared} {H : Hp} {E : XK} : (cxOf CX P w K mg base N qual scope f cd A outer s H E).K = K := rfl
theorem nox_K {X : Cx} : X.nox.K = X.K := rfl
end L2
namespace L2
open PySem PySem.Spec PyProof.Rows
theorem slen (z : Str) : z.length = z.cps.toList.length := len_list z
inductive CsOk : List Expr → List V → Prop where
  | nil : CsOk [] []
  | str {x : Str} {j : Nat} {pos : Pos} {es : List Expr} {vs : List V} (h : CsOk es vs) : CsOk (.Constant (.str x) j pos :: es) (.str x :: vs)
  | int {i : Int} {j : Nat} {pos : Pos} {es : List Expr} {vs : List V} (h : CsOk es vs) : CsOk (.Constant (.int i) j pos :: es) (.int i :: vs)
def tVals (vs : List V) : TA := fun _ H Q => Q vs H
theorem pa_const {X : Cx} {es : List Expr} {vs : List V} (h : CsOk es vs) : PA X es (tVals vs) := by
  induction h with
  | nil => exact pa_nil
  | str _ ih => exact pa_cons pe_str ih
  | int _ ih => exact pa_cons pe_int ih
end L2
namespace L2
open PySem PySem.Spec PyProof.Rows
def ForW (g : TG) (tb : TS) (D : Ends) (J : It) (σ : St) (H1 : Hp) : Prop := ∃ W : Nat → Nat → St → Hp → Prop, (∃ m, W 0 m σ H1) ∧ ∀ i m σ H, W i m σ H →
  (J.stop i H ∧ D.nx σ H) ∨ (J.go i H ∧ ∃ N : St → Hp → Prop, (∀ σ' H', N σ' H' → ∃ m', m' < m ∧ W (i + 1) m' σ' H') ∧ ∀ x H', J.yld i H x H' → g x σ H' fun σ2 H2 => tb { D with nx := N, ct := N, bk := D.nx } σ2 H2)
theorem tFor_eq (wi : TI) (g : TG) (tb : TS) (D : Ends) (σ : St) (H : Hp) : tFor wi g tb D σ H = wi σ H fun J H1 => ForW g tb D J σ H1 := rfl
section
variable {K : PySem.W.Frag} {a : Addr} {xs : List V} {g : TG} {tb : TS} {D : Ends} {σ : St} {H : Hp}
theorem forW_list (Pv : Nat → St → Hp → Prop) (h0 : Pv 0 σ H) (hl : ∀ i σ H, i ≤ xs.length → Pv i σ H → SqL K H a xs)
    (hs : ∀ i x σ H, xs[i]? = some x → Pv i σ H → g x σ H fun σ2 H2 => tb { D with nx := Pv (i + 1), ct := Pv (i + 1), bk := D.nx } σ2 H2) (hd : ∀ σ H, Pv xs.length σ H → D.nx σ H) : ForW g tb D (Itl K a) σ H := for_list Pv h0 hl hs hd
theorem forW_range {lo : Int} {n : Nat} (Pv : Nat → St → Hp → Prop) (h0 : Pv 0 σ H)
    (hs : ∀ i σ H, i < n → Pv i σ H → g (.int (lo + i)) σ H fun σ2 H2 => tb { D with nx := Pv (i + 1), ct := Pv (i + 1), bk := D.nx } σ2 H2) (hd : ∀ σ H, Pv n σ H → D.nx σ H) : ForW g tb D (Itr lo n) σ H := for_range Pv h0 hs hd
end
end L2
namespace L2
open PySem PySem.Spec PyProof.Rows Builtin Builtin.Str
def ModD (w : World) (K : PySem.W.Frag) (a : Addr) (kvs : List (Key × V)) : Prop :=
  (a == sysModules) = false ∧ ∀ (P : Program) (h : Heap), K.In h → ∃ vs, KV kvs vs ∧ h.DictOf (mixKind P w) a vs
abbrev SIRow := Int × Str × Tok × Int × Tok
def siE (e : SIRow) : DictEntry := ⟨e.1, .str e.2.1 e.2.2.1, .int e.2.2.2.1 e.2.2.2.2⟩
theorem si_pairs (P : Program) (w : World) : ∀ es : List SIRow, Pairs (mixKind P w) (es.map siE) (es.map fun e => ((Sum.inr e.2.1 : Key), Value.int e.2.2.2.1 e.2.2.2.2))
  | [] => .nil
  | e :: r => .cons (mixKind_str P w e.2.1 e.2.2.1) rfl (si_pairs P w r)
theorem si_kv : ∀ es : List SIRow, KV (es.map fun e => ((Sum.inr e.2.1 : Key), V.int e.2.2.2.1)) (es.map fun e => ((Sum.inr e.2.1 : Key), Value.int e.2.2.2.1 e.2.2.2.2))
  | [] => .nil
  | e :: r => .cons ⟨rfl, ⟨_, rfl⟩⟩ (si_kv r)
theorem modD_mk {w : World} {K : PySem.W.Frag} {a : Addr} {ep : Nat} (es : List SIRow) (hl : K.lookup a = some ⟨.type "dict", none, .dict (es.map siE).toArray ep, #[]⟩) (ha : (a == sysModules) = false)
    (hh : ∀ e ∈ es, e.1 = hashStr w e.2.1) (nd : (es.map fun e => (Sum.inr e.2.1 : Key)).Nodup) : ModD w K a (es.map fun e => (Sum.inr e.2.1, V.int e.2.2.2.1)) := by
  refine ⟨ha, fun P h hk => ⟨_, si_kv es, _, _, ep, hk a _ hl, ⟨rfl, rfl, rfl⟩, rfl, fun e he => ?_, by simpa using si_pairs P w es, ?_⟩⟩
  · have he' : e ∈ es.map siE := List.mem_toArray.mp he
    obtain ⟨r, hr, rfl⟩ := List.mem_map.mp he'
    exact ⟨Sum.inr r.2.1, mixKind_str P w r.2.1 r.2.2.1, hh r hr⟩
  · rw [List.map_map]
    exact nd
section
variable {X : Cx} {a : Addr} {kvs : List (Key × V)}
def tMGet2 (kvs : List (Key × V)) (ty tx : TE) : TE := fun σ H Q => ty σ H fun y H2 => tx σ H2 fun z H3 => ∃ k, y = kV k ∧ Q ((valV kvs k).getD z) H3
theorem pe_mget2 {o e f : Expr} {apos cpos : Pos} {ty tx : TE} (ho : PE X o (tC (.ref a))) (md : ModD X.w X.K a kvs) (he : PE X e ty) (hf : PE X f tx) (m : M2 X o "get" apos e f cpos) : PE X (.Call (.Attribute o "get" apos) [e, f] [] cpos) (tMGet2 kvs ty tx) := by
  intro pins s σ H Q I h
  refine wpAny_Call_method m.base m.few m.line PySem.F.plainAttrs_dict PySem.F.slot_dict_get PySem.F.type_dict_get (thn (ho pins s σ H (fun x H1 => x = .ref a ∧ H1 = H) I ⟨rfl, rfl⟩) fun u s1 ⟨x, H1, I1, rx, ex, eH⟩ => ?_)
  subst ex eH
  obtain rfl : u = Value.ref a := rx
  obtain ⟨vs, rel, dd⟩ := md.2 X.prog _ I1.kIn
  refine ⟨dd.typeIs, fun b q => ?_, ?_⟩
  · cases q
    obtain ⟨ob, _, _, h1, h2, _⟩ := dd
    exact ⟨ob, h1, h2.2.1⟩
  rw [m.trees]
  refine Calls.callWith_builtin rfl (Calls.evalArgs_plain (Calls.spliced_cons (thn (he pins s1 σ H1 _ I1 h) fun iv s2 ⟨y, H2, I2, ry, q2⟩ =>
    Calls.spliced_cons (thn (hf pins s2 σ H2 _ I2 q2) fun fv s3 ⟨z, H3, I3, rz, k, ek, q3⟩ => Calls.spliced_nil ?_))))
  subst ek
  obtain ⟨vs', rel', dd'⟩ := md.2 X.prog _ I3.kIn
  refine call_meetsIn PySem.F.slot_dict_get dd'.typeIs PySem.F.entry_dict_get (PySem.F.args_dict_get_3 _ _ _) (meets_dict_get_default (mixKind X.prog X.w) a (kV_is ry) md.1 fv) ⟨_, dd'.mapOf, ⟨_, H3, I3.tok _, ?_, q3⟩⟩
  exact (rel'.val k).getD rz
theorem call_sum_list (hc : X.calm = true) : CallR X (.builtin "sum") (fun xs H Q => ∃ p ns, xs = [.ref p] ∧ SqL X.K H p (List.map V.int ns) ∧ Q (.int ns.sum) H) := by
  intro pins s σ H xs us Q I r h
  obtain ⟨p, ns, rfl, hq, q⟩ := h
  obtain ⟨u, rfl, rx⟩ := vals1 r
  cases rx
  obtain ⟨its, rv, pl, hz⟩ := I.list hq
  have hi : IntsAre its ns := L2.intsAre_of rv
  obtain ⟨ys, hy⟩ := hi.allInts.items
  refine sum_intListG (I.ok.hd hc) (by rw [← hy]; exact pl.isList) fun h' tk t' hk => ⟨.int ns.sum, H, I.kept hk, ⟨t', ?_⟩, q⟩
  have e : ys.toList.map (·.1) = ns := by
    rw [← nums_intItems, ← hy]
    exact hi.numsOf
  rw [preSum_eq, List.take_of_length_le (by simp), e]
def textV : V → Str
  | .str z => z
  | .int i => (toString i : String)
  | _ => Str.empty
def wordV : V → Prop
  | .str _ => True
  | .int i => i.natAbs.log2 < 1920
  | _ => False
end
end L2
namespace L2
open PySem PySem.Spec PyProof.Rows
section
variable {X : Cx} (K : PySem.W.Frag) (hK : X.K = K)
include hK
theorem call_isinstK : CallR X (.builtin "isinstance") (fun xs H Q => ∃ x n t b, xs = [x, .ty n] ∧ TyOf K H x t ∧ PySem.W.kitOne K t (.type n) = some b ∧ Q (.bl b) H) := by subst hK; exact call_isinst
end
end L2
namespace L2
open PySem PySem.Spec PyProof.Rows
def tMid (t u : TS) : TS := fun D σ H => ∃ M : St → Hp → Prop, t { D with nx := M } σ H ∧ ∀ σ' H', M σ' H' → u D σ' H'
theorem tMid_of {t u : TS} {D : Ends} {σ : St} {H : Hp} (M : St → Hp → Prop) (h1 : t { D with nx := M } σ H) (h2 : ∀ σ' H', M σ' H' → u D σ' H') : tMid t u D σ H := ⟨M, h1, h2⟩
section
variable {X : Cx} {st : Stmt} {rest : List Stmt} {t u : TS}
theorem pss_mid (h1 : PS X st t) (h2 : PSs X rest u) : PSs X (st :: rest) (tMid t u) := by
  intro pins s σ H D I h
  obtain ⟨M, h, hM⟩ := h
  refine wpAny_execs_cons (thn (h1 pins s σ H { D with nx := M } I h) fun f s1 q => ?_)
  cases f with
  | next =>
    obtain ⟨σ', H', I', q⟩ := q
    exact h2 pins s1 σ' H' D I' (hM σ' H' q)
  | ret v => exact q
  | brk => exact q
  | cont => exact q
end
theorem tyV_str {K : PySem.W.Frag} {z : Str} {H : Hp} : tyV K "str" (.str z) H = True := eq_true rfl
theorem tyV_list {K : PySem.W.Frag} {a : Addr} {xs : List V} {H : Hp} (h : H a = some (.lst xs)) : tyV K "list" (.ref a) H := .inl ⟨rfl, xs, SqL.of h⟩
theorem rIxL_ok {K : PySem.W.Frag} {H : Hp} {t : Addr} {xs : List V} {i : Int} {v : V} {Q : VK} (h : H t = some (.lst xs)) (hv : atI xs i = some v) (q : Q v H) : rIxL K (.ref t) (.int i) H Q := ⟨t, xs, i, v, rfl, rfl, SqL.of h, hv, q⟩
theorem rCat_ok {H : Hp} {a b : Addr} {xs ys : List V} {Q : VK} (h1 : H a = some (.lst xs)) (h2 : H b = some (.lst ys)) (hz : xs.length + ys.length ≤ sizeLine) (q : ∀ p, H p = none → Q (.ref p) (upd H p (.lst (xs ++ ys)))) : rCat (.ref a) (.ref b) H Q := ⟨a, b, xs, ys, rfl, rfl, h1, h2, hz, q⟩
theorem rRep_ok {H : Hp} {a : Addr} {x : V} {k : Int} {Q : VK} (h1 : H a = some (.lst [x])) (h0 : 0 ≤ k) (hk : k ≤ 1000000) (q : ∀ p, H p = none → Q (.ref p) (upd H p (.lst (List.replicate k.toNat x)))) : rRep (.ref a) (.int k) H Q := by
  have sz := sizeLine_eq
  refine ⟨a, k, [x], rfl, rfl, h1, by omega, by omega, by show 1 * k.toNat ≤ sizeLine; omega, fun p hp => ?_⟩
  have e : (List.replicate k.toNat [x]).flatten = List.replicate k.toNat x := by
    induction k.toNat with
    | zero => rfl
    | succ n ih => rw [List.replicate_succ, List.flatten_cons, ih]; rfl
  rw [e]
  exact q p hp
theorem append_ok {K : PySem.W.Frag} {H : Hp} {l : Addr} {xs : List V} {y : V} {Q : VK} (h : H l = some (.lst xs)) (hz : xs.length < sizeLine) (q : Q .non (upd H l (.lst (xs ++ [y])))) : tyV K "list" (.ref l) H ∧ rAppend (.ref l) [y] H Q :=
  ⟨tyV_list h, l, xs, y, rfl, rfl, h, hz, q⟩
end L2
namespace HT
open PySem PySem.Spec PyProof.Rows L2
section
variable {prog : Program} {w : World} {A : Around} {E : Value → Shared → Prop} {s : Shared}
end
end HT
namespace L2
open PySem PySem.Spec PyProof.Rows
section
variable {X : Cx}
theorem kV_flat (k : Key) : flatV (kV k) = true := by cases k <;> rfl
theorem eqV_kV (a b : Key) : eqV (kV a) (kV b) = decide (a = b) := by
  cases a <;> cases b <;> simp [eqV, kV] <;> exact Bool.beq_eq_decide_eq _ _
theorem range_eq {as bs : List Key} (hl : as.length = bs.length) : ((List.range as.length).all fun j => decide (as[j]? = bs[j]?)) = decide (as = bs) := by
  rw [Bool.eq_iff_iff, List.all_eq_true, decide_eq_true_eq]
  constructor
  · intro h
    apply List.ext_getElem? 
    intro j
    by_cases hj : j < as.length
    · exact of_decide_eq_true (h j (List.mem_range.mpr hj))
    · rw [List.getElem?_eq_none_iff.mpr (by omega), List.getElem?_eq_none_iff.mpr (by omega)]
  · intro h j _
    rw [h]
    exact decide_eq_true rfl
theorem keys_eqAt {A : Around} {s : Shared} {as bs : List Key} {us ws : List Value} (r1 : Vals (as.map kV) us) (r2 : Vals (bs.map kV) ws) (j : Nat) (h1 : j < us.toArray.size) (h2 : j < ws.toArray.size) :
    SeqAt.EqAt A s us.toArray[j] ws.toArray[j] (decide (as[j]? = bs[j]?)) := by
  have l1 := r1.length
  have l2 := r2.length
  rw [List.length_map] at l1 l2
  have j1 : j < as.length := by rw [l1]; simpa using h1
  have j2 : j < bs.length := by rw [l2]; simpa using h2
  obtain ⟨u, hu, ru⟩ := r1.get (i := j) (x := kV as[j]) (by rw [List.getElem?_map, List.getElem?_eq_getElem j1]; rfl)
  obtain ⟨w, hw, rw'⟩ := r2.get (i := j) (x := kV bs[j]) (by rw [List.getElem?_map, List.getElem?_eq_getElem j2]; rfl)
  have e1 : us.toArray[j] = u := by
    have : us[j]'(by simpa using h1) = u := by rw [List.getElem?_eq_getElem (by simpa using h1)] at hu; exact Option.some.inj hu
    simpa using this
  have e2 : ws.toArray[j] = w := by
    have : ws[j]'(by simpa using h2) = w := by rw [List.getElem?_eq_getElem (by simpa using h2)] at hw; exact Option.some.inj hw
    simpa using this
  rw [e1, e2, List.getElem?_eq_getElem j1, List.getElem?_eq_getElem j2]
  have e3 : decide (some as[j] = some bs[j]) = eqV (kV as[j]) (kV bs[j]) := by
    rw [eqV_kV]
    apply decide_eq_decide.mpr
    exact ⟨fun h => Option.some.inj h, fun h => by rw [h]⟩
  rw [e3]
  exact eqAt_V ru rw' (kV_flat _) (kV_flat _)
def rEqK (K : PySem.W.Frag) (neg : Bool) : R2 := fun x y H Q => ∃ a b as bs, x = .ref a ∧ y = .ref b ∧ ((SqT K H a (List.map kV as) ∧ SqT K H b (List.map kV bs)) ∨ (SqL K H a (List.map kV as) ∧ SqL K H b (List.map kV bs))) ∧ Q (.bl (if neg then !decide (as = bs) else decide (as = bs))) H
theorem op_neK (hu : X.A.units < cLine) : OpR X (compareOp .NotEq) (rEqK X.K true) := by
  intro pins s σ H x y v u Q I rx ry h
  obtain ⟨a, b, as, bs, rfl, rfl, hd, q⟩ := h
  cases rx
  cases ry
  rcases hd with ⟨ha, hb⟩ | ⟨ha, hb⟩
  · obtain ⟨its, r1, p1, _⟩ := I.tuple ha
    obtain ⟨its2, r2, p2, _⟩ := I.tuple hb
    have l1 := r1.length
    have l2 := r2.length
    rw [List.length_map] at l1 l2
    refine SeqAt.RcNeAt.tuples (show s.heap.IsTuple a its.toArray from p1) (show s.heap.IsTuple b its2.toArray from p2) hu (fun j h1 h2 => keys_eqAt r1 r2 j h1 h2) _ _ _ _ ?_
    refine fin_bl I q ?_
    show (!decide (as = bs)) = _
    rw [List.size_toArray, List.size_toArray, ← l1, ← l2]
    by_cases hl : as.length = bs.length
    · rw [← hl, Nat.min_self, range_eq hl]
      simp
    · have : ¬ as = bs := fun e => hl (by rw [e])
      simp [this, hl]
  · obtain ⟨its, r1, p1, _⟩ := I.list ha
    obtain ⟨its2, r2, p2, _⟩ := I.list hb
    have l1 := r1.length
    have l2 := r2.length
    rw [List.length_map] at l1 l2
    by_cases hl : as.length = bs.length
    · refine SeqAt.RcNeAt.lists p1.isList p2.isList (by rw [List.size_toArray, List.size_toArray, ← l1, ← l2, hl]) hu (fun j h1 h2 => keys_eqAt r1 r2 j h1 h2) _ _ _ _ ?_
      refine fin_bl I q ?_
      show (!decide (as = bs)) = _
      rw [List.size_toArray, ← l1, range_eq hl]
    · refine SeqAt.RcNeAt.lists_lengths p1.isList p2.isList (by rw [List.size_toArray, List.size_toArray, ← l1, ← l2]; simpa using hl) hu _ _ _ _ ?_
      refine fin_bl I q ?_
      show (!decide (as = bs)) = _
      rw [decide_eq_false fun e => hl (by rw [e])]
      rfl
end
section
variable {X : Cx} {k : Nat} {ps : List Str} {sp : Sp} {x : Str} {p pos : Pos} {e : Expr} {es : List Expr} {t : TA}
def FnV (P : Program) (w : World) (K : PySem.W.Frag) (mg : Str → Option Value) (base : Heap) (k : Nat) (ps : List Str) (sp : Sp) (v : V) : Prop :=
  ∃ (f : Addr) (fd : FuncData), v = .ref f ∧ FnOk P w K mg base CX0 k f fd ps sp ∧ Binds K fd ps [] ∧ PySem.W.keepIn K (.ref f) = true
theorem Has.val {P : Program} {w : World} {K : PySem.W.Frag} {mg : Str → Option Value} {base : Heap} (h : Has P w K mg base k x ps sp) : ∃ a, mg x = some (.ref a) ∧ FnV P w K mg base k ps sp (.ref a) := by
  obtain ⟨f, fd, F, b, kp, m⟩ := h
  exact ⟨f, m, f, fd, rfl, F, b, kp⟩
def tCallV (P : Program) (w : World) (K : PySem.W.Frag) (mg : Str → Option Value) (base : Heap) (k : Nat) (ps : List Str) (i : Nat) (t : TA) : TE := fun σ H Q => ∃ v sp, σ[i]? = some (some v) ∧ FnV P w K mg base k ps sp v ∧ t σ H fun vs H1 => sp vs H1 Q E0
end
end L2
namespace L2
open PySem PySem.Spec PyProof.Rows
def Itv (K : PySem.W.Frag) (a : Addr) (n : Nat) : It :=
  ⟨fun i H => i < n ∧ ∃ xs, SqL K H a xs ∧ xs.length = n, fun i H x H' => H' = H ∧ ∀ xs, SqL K H a xs → xs[n - 1 - i]? = some x, fun i H => i = n⟩
def iRev (K : PySem.W.Frag) (ta : TA) : TI := fun σ H R => ta σ H fun vs H1 => ∃ a xs, vs = [.ref a] ∧ SqL K H1 a xs ∧ R (Itv K a xs.length) H1
theorem b_reversed : bootBuiltins "reversed" = some (.type "reversed") := by decide +kernel
section
variable {X : Cx} {tg : Expr}
end
end L2
namespace L2
open PySem PySem.Spec PyProof.Rows
section
variable {CX : CXT} {P : Program} {w : World} {K : PySem.W.Frag} {mg : Str → Option Value} {base : Heap} {N : List Str} {qual : Str} {scope : Scope} {f : Addr} {cd : Value} {A : Around} {outer : List Env} {s : Shared} {H : Hp} {E : XK}
theorem cxOf_P : (cxOf CX P w K mg base N qual scope f cd A outer s H E).prog = P := rfl
theorem cxOf_w : (cxOf CX P w K mg base N qual scope f cd A outer s H E).w = w := rfl
theorem cxOf_mg : (cxOf CX P w K mg base N qual scope f cd A outer s H E).mg = mg := rfl
theorem cxOf_b : (cxOf CX P w K mg base N qual scope f cd A outer s H E).base = base := rfl
end
theorem pop_ok {K : PySem.W.Frag} {H : Hp} {l : Addr} {xs : List V} {y : V} {Q : VK} (h : H l = some (.lst (xs ++ [y]))) (q : Q y (upd H l (.lst xs))) : tyV K "list" (.ref l) H ∧ rPop (.ref l) [] H Q :=
  ⟨tyV_list h, l, xs ++ [y], y, rfl, rfl, h, by rw [List.length_append, List.length_singleton, Nat.add_sub_cancel, List.getElem?_append_right (Nat.le_refl _), Nat.sub_self]; rfl, by rw [List.dropLast_concat]; exact q⟩
end L2
namespace Pc
def eat : Nat → List Nat → Option Nat
  | 0, _ => some 0
  | _ + 1, [] => none
  | l + 1, a :: r => (eat (l + a) r).map (· + 1)
def pend : Nat → List Nat → Option Nat
  | l, [] => some l
  | 0, _ :: _ => none
  | l + 1, a :: r => pend (l + a) r
def starts : Nat → List Nat → List Nat
  | _, [] => []
  | p, a :: r => p :: (starts (p + 1) r).drop a
theorem eat_zero (r : List Nat) : eat 0 r = some 0 := by cases r <;> rfl
theorem eat_cons (l a : Nat) (r : List Nat) : eat (l + 1) (a :: r) = (eat (l + a) r).map (· + 1) := rfl
theorem pend_app : ∀ (xs ys : List Nat) (l : Nat), pend l (xs ++ ys) = (pend l xs).bind fun m => pend m ys
  | [], ys, l => by cases l <;> rfl
  | a :: r, ys, 0 => rfl
  | a :: r, ys, l + 1 => by
    show pend (l + a) (r ++ ys) = (pend (l + a) r).bind _
    exact pend_app r ys (l + a)
theorem pend_one (l a : Nat) (h : 0 < l) : pend l [a] = some (l - 1 + a) := by
  cases l with
  | zero => omega
  | succ l => show some (l + a) = some (l + 1 - 1 + a); rw [Nat.add_sub_cancel]
theorem pend_snoc (xs : List Nat) (a l d : Nat) (h : pend l xs = some d) (hd : 0 < d) : pend l (xs ++ [a]) = some (d - 1 + a) := by
  rw [pend_app, h]
  exact pend_one d a hd
theorem eat_le : ∀ (r : List Nat) (l n : Nat), eat l r = some n → n ≤ r.length
  | r, 0, n, h => by rw [eat_zero] at h; cases h; exact Nat.zero_le _
  | [], l + 1, n, h => by cases h
  | a :: r, l + 1, n, h => by
    rw [eat_cons] at h
    obtain ⟨m, hm, rfl⟩ := Option.map_eq_some_iff.mp h
    have := eat_le r (l + a) m hm
    rw [List.length_cons]
    omega
theorem pend_drop (r : List Nat) (l : Nat) (h : pend l r = some 0) (p : Nat) : ∃ m, pend m (r.drop p) = some 0 := by
  have e : r = r.take p ++ r.drop p := (List.take_append_drop p r).symm
  rw [e, pend_app] at h
  cases q : pend l (r.take p) with
  | none => rw [q] at h; cases h
  | some m => rw [q] at h; exact ⟨m, h⟩
theorem pend_split : ∀ (r : List Nat) (l m : Nat), pend (l + m) r = some 0 → ∃ n, eat l r = some n ∧ pend m (r.drop n) = some 0
  | r, 0, m, h => ⟨0, eat_zero r, by rw [Nat.zero_add] at h; exact h⟩
  | [], l + 1, m, h => by
    have : l + 1 + m = 0 := Option.some.inj h
    omega
  | a :: r, l + 1, m, h => by
    have e : l + 1 + m = (l + m) + 1 := by omega
    rw [e] at h
    have h' : pend (l + a + m) r = some 0 := by
      have e2 : l + a + m = l + m + a := by omega
      rw [e2]
      exact h
    obtain ⟨n, h1, h2⟩ := pend_split r (l + a) m h'
    exact ⟨n + 1, by rw [eat_cons, h1]; rfl, h2⟩
theorem starts_drop : ∀ (r : List Nat) (l n p : Nat), eat l r = some n → (starts p r).drop l = starts (p + n) (r.drop n)
  | r, 0, n, p, h => by rw [eat_zero] at h; cases h; rfl
  | [], l + 1, n, p, h => by cases h
  | a :: r, l + 1, n, p, h => by
    rw [eat_cons] at h
    obtain ⟨m, hm, rfl⟩ := Option.map_eq_some_iff.mp h
    show ((starts (p + 1) r).drop a).drop l = starts (p + (m + 1)) (r.drop m)
    rw [List.drop_drop, Nat.add_comm a l, starts_drop r (l + a) m (p + 1) hm]
    congr 1
    omega
theorem starts_len : ∀ (r : List Nat) (l p : Nat), pend l r = some 0 → (starts p r).length = l
  | [], l, p, h => by
    have : l = 0 := Option.some.inj h
    rw [this]
    rfl
  | a :: r, 0, p, h => by cases h
  | a :: r, l + 1, p, h => by
    have ih := starts_len r (l + a) (p + 1) h
    show ((starts (p + 1) r).drop a).length + 1 = l + 1
    rw [List.length_drop, ih]
    omega
theorem starts_head (r : List Nat) (p : Nat) (h : r ≠ []) : ∃ t, starts p r = p :: t := by
  cases r with
  | nil => exact absurd rfl h
  | cons a r => exact ⟨_, rfl⟩
def belowN (ar : List Nat) (p : Nat) : List Nat := (starts (p + 1) (ar.drop (p + 1))).take (ar.getD p 0)
theorem starts_at (ar : List Nat) (p : Nat) (h : p < ar.length) : starts p (ar.drop p) = p :: (starts (p + 1) (ar.drop (p + 1))).drop (ar.getD p 0) := by
  rw [List.drop_eq_getElem_cons h]
  have e : ar.getD p 0 = ar[p] := by rw [List.getD_eq_getElem?_getD, List.getElem?_eq_getElem h]; rfl
  rw [e]
  rfl
end Pc
namespace Pc
end Pc
namespace Pc
open PySem PySem.Spec L2 PyProof.Rows
abbrev letS : Str := "abcdefghijklmnopqrstuvwxyz"
abbrev figS : Str := "0123456789"
def keptV : List V := [.str "add", .str "sub", .str "mul", .str "neg", .str "any", .str "var", .str "put", .str "load", .str "out"]
def madeB (z y : Str) : Bool := z.cps.toList.all fun c => decide (c ∈ y.cps.toList)
def nameB (z : Str) : Bool := decide (1 ≤ z.length) && (decide (z.length ≤ 8) && (madeB z letS && !inV (.str z) keptV))
def figL (l : List Nat) : List Nat := if l.head? = some 45 then l.tail else l
def numB (z : Str) : Bool := decide (1 ≤ (figL z.cps.toList).length) && (decide ((figL z.cps.toList).length ≤ 60) && (((figL z.cps.toList).all fun c => decide (c ∈ figS.cps.toList)) && (decide (z.cps.toList = [48]) || decide ((figL z.cps.toList).head? ≠ some 48))))
theorem big {n : Nat} (h : n ≤ 1000) : n ≤ sizeLine := Nat.le_trans h (by decide)
theorem atI_in {α : Type} (l : List α) (k : Int) (h0 : 0 ≤ k) (h1 : k < (l.length : Int)) : ∃ c, atI l k = some c ∧ c ∈ l := by
  have hk : k.toNat < l.length := by omega
  have e : k = ((k.toNat : Nat) : Int) := by omega
  have q : atI l ((k.toNat : Nat) : Int) = some l[k.toNat] := atI_nat (List.getElem?_eq_getElem hk)
  rw [← e] at q
  exact ⟨_, q, List.getElem_mem hk⟩
def Ones (i : Nat) (ys : List V) : Prop := ∃ zs : List Str, ys = zs.map V.str ∧ zs.length = i ∧ ∀ z ∈ zs, z.length = 1
theorem Ones.zero : Ones 0 [] := ⟨[], rfl, rfl, fun _ h => nomatch h⟩
theorem Ones.more {i : Nat} {ys : List V} (h : Ones i ys) (c : Nat) : Ones (i + 1) (ys ++ [.str ⟨#[c]⟩]) := by
  obtain ⟨zs, rfl, rfl, h1⟩ := h
  refine ⟨zs ++ [⟨#[c]⟩], by rw [List.map_append]; rfl, by rw [List.length_append, List.length_singleton], fun z hz => ?_⟩
  rcases List.mem_append.mp hz with h | h
  · exact h1 z h
  · rw [List.mem_singleton.mp h]; rfl
def Txts (xs : List V) : Prop := ∀ v ∈ xs, ∃ z : Str, v = .str z ∧ z.length ≤ 1000
theorem Txts.app {xs ys : List V} (h : Txts xs) (g : Txts ys) : Txts (xs ++ ys) := fun v hv => (List.mem_append.mp hv).elim (h v) (g v)
theorem Txts.snoc {xs : List V} {z : Str} (h : Txts xs) (g : z.length ≤ 1000) : Txts (xs ++ [.str z]) := h.app fun v hv => ⟨z, List.mem_singleton.mp hv, g⟩
end Pc
namespace Pc
open PySem PySem.Spec L2 PyProof.Rows
abbrev parts : List (Key × V) := [(Sum.inr "add", .int 2), (Sum.inr "sub", .int 2), (Sum.inr "mul", .int 2), (Sum.inr "neg", .int 1)]
def arS (z : Str) : Nat := if z = "add" then 2 else if z = "sub" then 2 else if z = "mul" then 2 else if z = "neg" then 1 else 0
def arV : V → Nat
  | .str z => arS z
  | _ => 0
def isW (v : V) : Prop := ∃ k : Key, v = kV k
theorem isW.str (z : Str) : isW (.str z) := ⟨Sum.inr z, rfl⟩
theorem isW.int (i : Int) : isW (.int i) := ⟨Sum.inl i, rfl⟩
theorem val_parts (k : Key) : (valV parts k).getD (.int 0) = .int (arV (kV k)) := by
  cases k with
  | inl i => rfl
  | inr z =>
    show (valV parts (Sum.inr z)).getD (.int 0) = .int (arS z)
    unfold arS
    by_cases h1 : z = "add"
    · subst h1; rw [valV_pos rfl, if_pos rfl]; rfl
    rw [valV_neg (fun e => h1 (Sum.inr.inj e).symm), if_neg h1]
    by_cases h2 : z = "sub"
    · subst h2; rw [valV_pos rfl, if_pos rfl]; rfl
    rw [valV_neg (fun e => h2 (Sum.inr.inj e).symm), if_neg h2]
    by_cases h3 : z = "mul"
    · subst h3; rw [valV_pos rfl, if_pos rfl]; rfl
    rw [valV_neg (fun e => h3 (Sum.inr.inj e).symm), if_neg h3]
    by_cases h4 : z = "neg"
    · subst h4; rw [valV_pos rfl, if_pos rfl]; rfl
    rw [valV_neg (fun e => h4 (Sum.inr.inj e).symm), if_neg h4]
    rfl
theorem arS_le (z : Str) : arS z ≤ 2 := by
  unfold arS
  repeat' split
  all_goals decide
theorem arV_le (v : V) : arV v ≤ 2 := by cases v <;> first | exact arS_le _ | exact Nat.zero_le _
theorem arS_cases {z : Str} (h : 0 < arS z) : z = "add" ∨ z = "sub" ∨ z = "mul" ∨ z = "neg" := by
  unfold arS at h
  by_cases h1 : z = "add"
  · exact .inl h1
  by_cases h2 : z = "sub"
  · exact .inr (.inl h2)
  by_cases h3 : z = "mul"
  · exact .inr (.inr (.inl h3))
  by_cases h4 : z = "neg"
  · exact .inr (.inr (.inr h4))
  rw [if_neg h1, if_neg h2, if_neg h3, if_neg h4] at h
  exact absurd h (by decide)
theorem toDigits_len : ∀ (n m : Nat), m < 10 ^ (n + 1) → (Nat.toDigits 10 m).length ≤ n + 1
  | 0, m, h => by rw [Nat.toDigits_of_lt_base (by simpa using h)]; exact Nat.le_refl _
  | n + 1, m, h => by
    by_cases hm : m < 10
    · rw [Nat.toDigits_of_lt_base hm]
      show 1 ≤ _
      omega
    have hr : m % 10 < 10 := Nat.mod_lt m (by decide)
    have t : Nat.toDigits 10 (m / 10) ++ Nat.toDigits 10 (m % 10) = Nat.toDigits 10 (10 * (m / 10) + m % 10) := Nat.toDigits_append_toDigits (by decide) (by omega) hr
    rw [Nat.div_add_mod] at t
    have ih := toDigits_len n (m / 10) (by rw [Nat.pow_succ] at h; omega)
    rw [← t, List.length_append, Nat.toDigits_of_lt_base hr]
    show _ + 1 ≤ _
    omega
theorem digitChar_ne : ∀ d : Nat, 0 < d → d < 10 → (Nat.digitChar d).toNat ≠ 48 := by
  intro d h1 h2
  have : d = 1 ∨ d = 2 ∨ d = 3 ∨ d = 4 ∨ d = 5 ∨ d = 6 ∨ d = 7 ∨ d = 8 ∨ d = 9 := by omega
  rcases this with rfl | rfl | rfl | rfl | rfl | rfl | rfl | rfl | rfl <;> decide
theorem toDigits_head (m : Nat) : 0 < m → ∃ c r, (Nat.toDigits 10 m).map Char.toNat = c :: r ∧ c ≠ 48 := by
  induction m using Nat.strongRecOn with
  | _ m ih =>
    intro h0
    by_cases h : m < 10
    · rw [Nat.toDigits_of_lt_base h]
      exact ⟨_, _, rfl, digitChar_ne m h0 h⟩
    · have hm : m % 10 < 10 := Nat.mod_lt m (by decide)
      have t : Nat.toDigits 10 (m / 10) ++ Nat.toDigits 10 (m % 10) = Nat.toDigits 10 (10 * (m / 10) + m % 10) := Nat.toDigits_append_toDigits (by decide) (by omega) hm
      rw [Nat.div_add_mod] at t
      obtain ⟨c, r, e, hc⟩ := ih (m / 10) (by omega) (by omega)
      rw [← t, List.map_append, e]
      exact ⟨c, _, rfl, hc⟩
def digs (m : Nat) : List Nat := (Nat.toDigits 10 m).map Char.toNat
theorem digs_digit (m : Nat) : NumText.AllDigits (digs m) := by
  intro c hc
  obtain ⟨ch, hch, e⟩ := List.mem_map.mp hc
  have r := PyProof.Rows.digit_range (Nat.isDigit_of_mem_toDigits (by decide) (by decide) hch)
  rw [← e]
  exact r
theorem digs_ne (m : Nat) : digs m ≠ [] := by
  unfold digs
  intro e
  have h := PySem.toDigits_len_ge 10 m
  rw [List.map_eq_nil_iff.mp e] at h
  exact absurd h (by decide)
theorem digs_len {m : Nat} (h : m < 10 ^ 60) : (digs m).length ≤ 60 := by
  unfold digs
  rw [List.length_map]
  exact toDigits_len 59 m h
theorem digs_head (m : Nat) : digs m = [48] ∨ ∃ c r, digs m = c :: r ∧ c ≠ 48 := by
  cases m with
  | zero => exact .inl rfl
  | succ m => exact .inr (toDigits_head (m + 1) (Nat.succ_pos m))
theorem text_nat (m : Nat) : (textV (.int (m : Int))).cps.toList = digs m := PySem.W.KIN.signs_num m
theorem text_neg (m : Nat) : (textV (.int (Int.negSucc m))).cps.toList = 45 :: digs (m + 1) := by
  show (Str.ofString (toString (Int.negSucc m))).cps.toList = _
  rw [PyProof.Rows.signs_ofString]
  show ("-" ++ Nat.repr (m + 1)).toList.map Char.toNat = _
  rw [String.toList_append, List.map_append, Nat.toList_repr]
  rfl
theorem mem_fig (c : Nat) : c ∈ figS.cps.toList ↔ (48 ≤ c ∧ c ≤ 57) := by
  have e : figS.cps.toList = [48, 49, 50, 51, 52, 53, 54, 55, 56, 57] := by decide +kernel
  rw [e]
  simp only [List.mem_cons, List.not_mem_nil, or_false]
  omega
theorem mem_let (c : Nat) : c ∈ letS.cps.toList ↔ (97 ≤ c ∧ c ≤ 122) := by
  have e : letS.cps.toList = List.range' 97 26 := by decide +kernel
  rw [e, List.mem_range']
  constructor
  · rintro ⟨i, h1, h2⟩; omega
  · intro h; exact ⟨c - 97, by omega, by omega⟩
theorem digs_all (m : Nat) : ((digs m).all fun c => decide (c ∈ figS.cps.toList)) = true := by
  rw [List.all_eq_true]
  intro c hc
  exact decide_eq_true ((mem_fig c).mpr (digs_digit m c hc))
theorem digs_no45 (m : Nat) : (digs m).head? ≠ some 45 := by
  rcases digs_head m with h | ⟨c, r, h, _⟩
  · rw [h]; decide
  · rw [h]
    intro e
    have := digs_digit m c (by rw [h]; exact List.mem_cons_self)
    have e' : c = 45 := by simpa using e
    omega
theorem read_nat {m : Nat} (h : m < 10 ^ 60) : numB (textV (.int (m : Int))) = true ∧ PySem.intText? (textV (.int (m : Int))) = some (m : Int) ∧ (textV (.int (m : Int))).length ≤ 61 := by
  have e := text_nat m
  have hl := digs_len h
  have hn := digs_ne m
  refine ⟨?_, ?_, by rw [slen, e]; omega⟩
  · unfold numB
    rw [e]
    have f : figL (digs m) = digs m := by unfold figL; rw [if_neg (digs_no45 m)]
    rw [f, digs_all, decide_eq_true (show 1 ≤ (digs m).length from List.length_pos_iff.mpr hn), decide_eq_true hl]
    rcases digs_head m with h | ⟨c, r, h, hc⟩
    · rw [h]; rfl
    · have : (digs m).head? ≠ some 48 := by rw [h]; intro q; exact hc (by simpa using q)
      rw [decide_eq_true this]
      simp
  · have q := PySem.intText_digits (x := textV (.int (m : Int))) (by rw [e]; exact digs_digit m) (by rw [e]; exact hn) (by rw [slen, e]; omega)
    rw [e] at q
    rw [q]
    unfold digs
    rw [PySem.W.KIN.val_back]
theorem read_negS {m : Nat} (h : m + 1 < 10 ^ 60) : numB (textV (.int (Int.negSucc m))) = true ∧ PySem.intText? (textV (.int (Int.negSucc m))) = some (Int.negSucc m) ∧ (textV (.int (Int.negSucc m))).length ≤ 61 := by
  have e := text_neg m
  have hl := digs_len h
  have hn := digs_ne (m + 1)
  refine ⟨?_, ?_, by rw [slen, e, List.length_cons]; omega⟩
  · unfold numB
    rw [e]
    have f : figL (45 :: digs (m + 1)) = digs (m + 1) := by unfold figL; simp
    rw [f, digs_all, decide_eq_true (show 1 ≤ (digs (m + 1)).length from List.length_pos_iff.mpr hn), decide_eq_true hl]
    rcases toDigits_head (m + 1) (Nat.succ_pos m) with ⟨c, r, h, hc⟩
    have : (digs (m + 1)).head? ≠ some 48 := by
      show ((Nat.toDigits 10 (m + 1)).map Char.toNat).head? ≠ some 48
      rw [h]; intro q; exact hc (by simpa using q)
    rw [decide_eq_true this]
    simp
  · have q := PySem.intText_neg (x := textV (.int (Int.negSucc m))) e (digs_digit _) hn (by rw [slen, e, List.length_cons]; omega)
    rw [q]
    unfold digs
    rw [PySem.W.KIN.val_back]
    rfl
def okW : V → Prop
  | .int i => i.natAbs < 10 ^ 60
  | .str z => nameB z = true ∨ 0 < arS z
  | _ => False
theorem read_int {i : Int} (h : i.natAbs < 10 ^ 60) : numB (textV (.int i)) = true ∧ PySem.intText? (textV (.int i)) = some i ∧ (textV (.int i)).length ≤ 61 := by
  cases i with
  | ofNat m => exact read_nat h
  | negSucc m => exact read_negS h
theorem okW.isW {v : V} (h : okW v) : isW v := by
  cases v with
  | int i => exact isW.int i
  | str z => exact isW.str z
  | _ => exact h.elim
theorem log_small {m : Nat} (h : m < 10 ^ 60) : m.log2 < 1920 := by
  by_cases h0 : m = 0
  · subst h0; decide
  · exact (Nat.log2_lt h0).mpr (Nat.lt_of_lt_of_le h (by decide))
theorem okW.word {v : V} (h : okW v) : wordV v := by
  cases v with
  | int i => exact log_small h
  | str z => exact True.intro
  | _ => exact h.elim
theorem name_codes {z : Str} (h : nameB z = true) : z.cps.toList ≠ [] ∧ z.length ≤ 8 ∧ ∀ c ∈ z.cps.toList, 97 ≤ c ∧ c ≤ 122 := by
  unfold nameB madeB at h
  simp only [Bool.and_eq_true, decide_eq_true_eq, List.all_eq_true] at h
  obtain ⟨h1, h2, h3, _⟩ := h
  exact ⟨fun e => by rw [slen, e] at h1; exact absurd h1 (by decide), h2, fun c hc => (mem_let c).mp (h3 c hc)⟩
theorem op_codes {z : Str} (h : 0 < arS z) : z.cps.toList ≠ [] ∧ z.length ≤ 8 ∧ ∀ c ∈ z.cps.toList, 97 ≤ c ∧ c ≤ 122 := by
  rcases arS_cases h with rfl | rfl | rfl | rfl <;> refine ⟨by decide +kernel, by decide +kernel, ?_⟩ <;> decide +kernel
theorem str_codes {z : Str} (h : okW (.str z)) : z.cps.toList ≠ [] ∧ z.length ≤ 8 ∧ ∀ c ∈ z.cps.toList, 97 ≤ c ∧ c ≤ 122 := h.elim name_codes op_codes
theorem okW.text {v : V} (h : okW v) : (textV v).length ≤ 61 ∧ 32 ∉ (textV v).cps.toList := by
  cases v with
  | int i =>
    refine ⟨(read_int h).2.2, ?_⟩
    cases i with
    | ofNat m =>
      show 32 ∉ (textV (.int (m : Int))).cps.toList
      rw [text_nat]
      intro hc
      have := digs_digit m 32 hc
      omega
    | negSucc m =>
      rw [text_neg]
      intro hc
      rcases List.mem_cons.mp hc with e | hc
      · exact absurd e (by decide)
      · have := digs_digit (m + 1) 32 hc
        omega
  | str z =>
    obtain ⟨h1, h2, h3⟩ := str_codes h
    refine ⟨by show z.length ≤ 61; omega, fun hc => ?_⟩
    have := h3 32 hc
    omega
  | _ => exact h.elim
def isTerm (ws : List V) : Prop := pend 1 (ws.map arV) = some 0
theorem isTerm.ne {ws : List V} (h : isTerm ws) : ws ≠ [] := by
  intro e
  rw [e] at h
  cases h
def spHow : Sp := fun vs H Q _ => ∃ v, vs = [v] ∧ isW v ∧ Q (.int (arV v)) H
end Pc
namespace Pc
open PySem PySem.Spec L2 PyProof.Rows
def Deck (H : Hp) (d b : Addr) (ns : List Int) (n : Nat) : Prop := H d = some (.lst [.ref b, .int (n : Int)]) ∧ H b = some (.lst (List.map V.int ns))
def SameB (d : Addr) (H H' : Hp) : Prop := ∀ b o, b ≠ d → H b = some o → H' b = some o
theorem SameB.refl (d : Addr) (H : Hp) : SameB d H H := fun _ _ _ h => h
theorem SameB.trans {d : Addr} {H H1 H2 : Hp} (a : SameB d H H1) (b : SameB d H1 H2) : SameB d H H2 := fun c o n h => b c o n (a c o n h)
theorem SameB.of {d : Addr} {H H' : Hp} (a : Same H H') : SameB d H H' := fun b o _ h => a b o h
theorem SameB.upd {d p : Addr} {H H' : Hp} (a : SameB d H H') (hp : H p = none) (o : HO) : SameB d H (L2.upd H' p o) := fun b u n h => by rw [upd_ne (ne_of_none h hp)]; exact a b u n h
theorem Deck.ne {H : Hp} {d b : Addr} {ns : List Int} {n : Nat} (h : Deck H d b ns n) : b ≠ d := ne_of h.2 h.1 (by intro e; cases ns <;> simp at e)
theorem Deck.next {H H' : Hp} {d b : Addr} {ns : List Int} {n k : Nat} (h : Deck H d b ns n) (s : SameB d H H') (e : H' d = some (.lst [.ref b, .int (k : Int)])) : Deck H' d b ns k := ⟨e, s b _ h.ne h.2⟩
theorem Deck.same {H H' : Hp} {d b : Addr} {ns : List Int} {n : Nat} (h : Deck H d b ns n) (s : Same H H') : Deck H' d b ns n := ⟨s _ _ h.1, s _ _ h.2⟩
def lenAt (H : Hp) (p : Addr) : Nat := match H p with | some (.lst ws) => ws.length | _ => 0
theorem lenAt_of {H : Hp} {p : Addr} {ws : List V} (h : H p = some (.lst ws)) : lenAt H p = ws.length := by unfold lenAt; rw [h]
def spNext : Sp := fun vs H Q _ => ∃ (d b : Addr) (ns : List Int) (n : Nat), vs = [.ref d] ∧ Deck H d b ns n ∧ n ≤ 100000 ∧ ∀ (c : Int) (H' : Hp), SameB d H H' → H' d = some (.lst [.ref b, .int ((n + 1 : Nat) : Int)]) → Q (.int c) H'
def Names (H : Hp) (l : Addr) (k : Nat) : Prop := ∃ zs : List Str, H l = some (.lst (List.map V.str zs)) ∧ zs.length = k ∧ ∀ z ∈ zs, nameB z = true
def TermAt (H : Hp) (t : Addr) (m : Nat) : Prop := ∃ ws : List V, H t = some (.tup ws) ∧ (∀ v ∈ ws, okW v) ∧ isTerm ws ∧ ws.length ≤ m
theorem inV_str {z : Str} : ∀ {xs : List V}, inV (.str z) xs = true → .str z ∈ xs := by
  intro xs h
  unfold inV at h
  obtain ⟨y, hy, e⟩ := List.any_eq_true.mp h
  cases y with
  | str x =>
    have e' : x = z := by simpa [eqV] using e
    exact e' ▸ hy
  | _ => simp [eqV] at e
theorem name_ar {z : Str} (h : nameB z = true) : arS z = 0 := by
  cases e : arS z with
  | zero => rfl
  | succ n =>
    have hk : inV (.str z) keptV = true := by
      rcases arS_cases (z := z) (by omega) with rfl | rfl | rfl | rfl <;> decide +kernel
    unfold nameB at h
    rw [hk] at h
    simp at h
theorem ar_neg : arS "neg" = 1 := by decide +kernel
theorem bin_at (c : Int) (h : c % 8 < 4) : ∃ z : Str, atI [V.str "add", V.str "sub", V.str "mul", V.str "mul"] (c % 8) = some (.str z) ∧ arS z = 2 := by
  obtain ⟨x, h1, h2⟩ := atI_in [V.str "add", V.str "sub", V.str "mul", V.str "mul"] (c % 8) (Int.emod_nonneg _ (by decide)) (by show c % 8 < 4; omega)
  simp only [List.mem_cons, List.not_mem_nil, or_false] at h2
  rcases h2 with rfl | rfl | rfl | rfl <;> exact ⟨_, h1, by decide +kernel⟩
theorem SameB.free {d t : Addr} {H H' : Hp} {o : HO} (s : SameB d H H') (hd : H' d = some o) (ht : H' t = none) : H t = none := by
  cases e : H t with
  | none => rfl
  | some u =>
    by_cases h : t = d
    · subst h; rw [hd] at ht; cases ht
    · rw [s t u h e] at ht; cases ht
theorem strs_at {zs : List Str} {k : Int} {n : Nat} (hn : zs.length = n) (h0 : 0 ≤ k) (h1 : k < (n : Int)) : ∃ z, atI (zs.map V.str) k = some (.str z) ∧ z ∈ zs := by
  obtain ⟨x, h1, h2⟩ := atI_in (zs.map V.str) k h0 (by rw [List.length_map, hn]; exact h1)
  obtain ⟨z, hz, rfl⟩ := List.mem_map.mp h2
  exact ⟨z, h1, hz⟩
def goodT (ws : List V) : Prop := (∀ v ∈ ws, okW v) ∧ isTerm ws ∧ ws.length ≤ 200
theorem pend_rep2 : ∀ n l : Nat, pend (l + 1) (List.replicate n 2) = some (l + 1 + n)
  | 0, l => rfl
  | n + 1, l => by
    rw [List.replicate_succ]
    show pend (l + 2) (List.replicate n 2) = _
    rw [pend_rep2 n (l + 1)]
    congr 1
    omega
theorem ok_neg : okW (.str (Str.ofString "neg")) := .inr (by decide +kernel)
theorem ok_sub : okW (.str (Str.ofString "sub")) := .inr (by decide +kernel)
theorem ok_mul : okW (.str (Str.ofString "mul")) := .inr (by decide +kernel)
theorem good_mul {ws : List V} {i : Int} (h : goodT ws) (hi : i.natAbs < 10 ^ 60) (hl : ws.length ≤ 190) : goodT ([.str (Str.ofString "mul"), .int i] ++ ws) := by
  obtain ⟨h1, h2, h3⟩ := h
  refine ⟨fun v hv => ?_, ?_, by rw [List.length_append]; show 2 + ws.length ≤ 200; omega⟩
  · rcases List.mem_append.mp hv with h | h
    · rcases List.mem_cons.mp h with rfl | h
      · exact ok_mul
      · rw [List.mem_singleton.mp h]; exact hi
    · exact h1 v h
  · show pend 1 (arS (Str.ofString "mul") :: 0 :: ws.map arV) = some 0
    rw [show arS (Str.ofString "mul") = 2 by decide +kernel]
    exact h2
theorem good_one {z : Str} (hz : nameB z = true) : goodT [.str z] := by
  refine ⟨fun v hv => by rw [List.mem_singleton.mp hv]; exact .inl hz, ?_, by show (1 : Nat) ≤ 200; decide⟩
  show pend 1 [arS z] = some 0
  rw [name_ar hz]
  rfl
theorem Names.same {H H' : Hp} {l : Addr} {k : Nat} (h : Names H l k) (s : Same H H') : Names H' l k := by
  obtain ⟨zs, h1, h2⟩ := h
  exact ⟨zs, s _ _ h1, h2⟩
theorem Names.sameB {H H' : Hp} {d l : Addr} {k : Nat} (h : Names H l k) (s : SameB d H H') (hn : l ≠ d) : Names H' l k := by
  obtain ⟨zs, h1, h2⟩ := h
  exact ⟨zs, s _ _ hn h1, h2⟩
theorem Names.ne {H : Hp} {d b l : Addr} {ns : List Int} {n k : Nat} (h : Names H l k) (hD : Deck H d b ns n) : l ≠ d := by
  obtain ⟨zs, h1, h2⟩ := h
  exact ne_of h1 hD.1 (by intro e; cases zs <;> simp at e)
theorem TermAt.same {H H' : Hp} {t : Addr} {m : Nat} (h : TermAt H t m) (s : Same H H') : TermAt H' t m := by
  obtain ⟨ws, h1, h2⟩ := h
  exact ⟨ws, s _ _ h1, h2⟩
theorem TermAt.sameB {H H' : Hp} {d b t : Addr} {ns : List Int} {n m : Nat} (h : TermAt H t m) (hD : Deck H d b ns n) (s : SameB d H H') : TermAt H' t m := by
  obtain ⟨ws, h1, h2⟩ := h
  exact ⟨ws, s _ _ (ne_of h1 hD.1 (by intro e; cases e)) h1, h2⟩
theorem cut_ints (ns : List Int) (lo hi : Option Int) : ∃ ms : List Int, cutV (ns.map V.int) lo hi = ms.map V.int ∧ ms.length ≤ ns.length := by
  refine ⟨_, by unfold cutV; rw [← List.map_drop, ← List.map_take], ?_⟩
  rw [List.length_take, List.length_drop]
  omega
end Pc
namespace Pc
open PySem PySem.Spec L2 PyProof.Rows
def opN (z : Str) (a b : Int) : Int := if z = "add" then a + b else if z = "sub" then a - b else if z = "mul" then a * b else -a
def mag (x : Int) : Nat := max x.natAbs 2
end Pc
namespace L2
open PySem PySem.Spec PyProof.Rows
def bitsOk (i : Int) : Prop := ∃ n, n ≤ 1000000 ∧ i.natAbs < 2 ^ n
theorem bitsOk.le {i : Int} (h : bitsOk i) : Builtin.Int.intBits i ≤ 2 ^ 20 := by
  obtain ⟨n, hn, hi⟩ := h
  unfold Builtin.Int.intBits
  split
  · exact Nat.zero_le _
  · rename_i h0
    have hne : i.natAbs ≠ 0 := by
      intro e
      exact h0 (by rw [Int.natAbs_eq_zero.mp e]; rfl)
    have := (Nat.log2_lt hne).mpr hi
    have e : (2 : Nat) ^ 20 = 1048576 := rfl
    omega
theorem FnV.up {P : Program} {w : World} {K : PySem.W.Frag} {mg : Str → Option Value} {base : Heap} {j k : Nat} {ps : List Str} {sp : Sp} {v : V} (h : FnV P w K mg base j ps sp v) (l : j ≤ k) : FnV P w K mg base k ps sp v := by
  obtain ⟨f, fd, e, F, r⟩ := h
  exact ⟨f, fd, e, F.mono l, r⟩
end L2
namespace Pc
open PySem PySem.Spec L2 PyProof.Rows
def ValsAt (H : Hp) (a : Addr) (ρ : Str → Option Int) : Prop := ∃ kvs : List (Key × V), H a = some (.dK kvs) ∧ ∀ z, valV kvs (Sum.inr z) = (ρ z).map V.int
theorem ValsAt.same {H H' : Hp} {a : Addr} {ρ : Str → Option Int} (h : ValsAt H a ρ) (s : Same H H') : ValsAt H' a ρ := by
  obtain ⟨kvs, h1, h2⟩ := h
  exact ⟨kvs, s _ _ h1, h2⟩
def valW (ρ : Str → Option Int) : V → V
  | .str z => if 0 < arS z then .str z else .int ((ρ z).getD 0)
  | v => v
def hasV (ρ : Str → Option Int) : V → Prop
  | .str z => 0 < arS z ∨ (ρ z).isSome = true
  | _ => True
end Pc
namespace Pc
open PySem PySem.Spec L2 PyProof.Rows
theorem pend_le : ∀ (r : List Nat) (l : Nat), pend l r = some 0 → l ≤ r.length
  | [], l, h => by
    have : l = 0 := Option.some.inj h
    omega
  | a :: r, 0, h => by cases h
  | a :: r, l + 1, h => by
    have := pend_le r (l + a) h
    rw [List.length_cons]
    omega
theorem eat_add : ∀ (r : List Nat) (j k : Nat), eat (j + k) r = (eat j r).bind fun s => (eat k (r.drop s)).map (s + ·)
  | r, 0, k => by
    rw [eat_zero, Nat.zero_add]
    show eat k r = (eat k r).map (0 + ·)
    cases eat k r with
    | none => rfl
    | some n => show some n = some (0 + n); rw [Nat.zero_add]
  | [], j + 1, k => by
    rw [show j + 1 + k = (j + k) + 1 by omega]
    rfl
  | a :: r, j + 1, k => by
    rw [show j + 1 + k = (j + k) + 1 by omega, eat_cons, eat_cons, show j + k + a = j + a + k by omega, eat_add r (j + a) k]
    cases eat (j + a) r with
    | none => rfl
    | some s =>
      show ((eat k (r.drop s)).map (s + ·)).map (· + 1) = (eat k (r.drop s)).map (s + 1 + ·)
      cases eat k (r.drop s) with
      | none => rfl
      | some n => show some (s + n + 1) = some (s + 1 + n); congr 1; omega
theorem eat_pos : ∀ (r : List Nat) (k n : Nat), eat (k + 1) r = some n → 0 < n
  | [], k, n, h => by cases h
  | a :: r, k, n, h => by
    rw [eat_cons] at h
    obtain ⟨m, hm, rfl⟩ := Option.map_eq_some_iff.mp h
    omega
theorem below_pend {ws : List V} (h : isTerm ws) {p : Nat} {x : V} (hx : ws[p]? = some x) : ∃ m, pend (m + arV x) ((ws.drop (p + 1)).map arV) = some 0 := by
  have hp : p < ws.length := (List.getElem?_eq_some_iff.mp hx).1
  have hd : ws.drop p = x :: ws.drop (p + 1) := by
    rw [List.drop_eq_getElem_cons hp]
    congr 1
    rw [List.getElem?_eq_getElem hp] at hx
    exact Option.some.inj hx
  obtain ⟨m, hm⟩ := pend_drop _ 1 h p
  rw [← List.map_drop, hd] at hm
  cases m with
  | zero => cases hm
  | succ m' => exact ⟨m', hm⟩
def lowW (ρ : Str → Option Int) (v : V) : Prop := isW v ∧ hasV ρ v ∧ ∀ i, valW ρ v = .int i → mag i ≤ 2 ^ 7
theorem three_in {x : V} (hx : isW x) : (inV x [V.str "add", V.str "sub", V.str "mul"] = true) ↔ arV x = 2 := by
  obtain ⟨k, rfl⟩ := hx
  cases k with
  | inl i =>
    constructor
    · intro h
      exact absurd h (by simp [inV, eqV, kV])
    · intro h
      exact absurd h (by show ¬ (0 = 2); decide)
  | inr z =>
    show (inV (.str z) _ = true) ↔ arS z = 2
    constructor
    · intro h
      have := inV_str h
      simp only [List.mem_cons, List.not_mem_nil, or_false, V.str.injEq] at this
      rcases this with rfl | rfl | rfl <;> decide +kernel
    · intro h
      rcases arS_cases (z := z) (by omega) with rfl | rfl | rfl | rfl
      · decide +kernel
      · decide +kernel
      · decide +kernel
      · rw [ar_neg] at h
        exact absurd h (by decide)
theorem neg_is {x : V} (hx : isW x) (h : ¬ arV x = 2) : x = .str "neg" ↔ arV x = 1 := by
  constructor
  · intro e
    rw [e]
    exact ar_neg
  · intro e
    cases x with
    | str z =>
      have e : arS z = 1 := e
      have h : ¬ arS z = 2 := h
      rcases arS_cases (z := z) (by omega) with rfl | rfl | rfl | rfl
      · exact absurd (by decide +kernel) h
      · exact absurd (by decide +kernel) h
      · exact absurd (by decide +kernel) h
      · rfl
    | _ => exact absurd e (by show ¬ (0 = 1); decide)
def six : List Str := ["a", "b", "ab", "kind", "addd", "neon"]
theorem six_name {z : Str} (h : z ∈ six) : nameB z = true := by
  have all : six.all nameB = true := by decide +kernel
  exact List.all_eq_true.mp all z h
def okL : V → Prop
  | .int i => i.natAbs ≤ 100
  | .str z => z ∈ six ∨ 0 < arS z
  | _ => False
theorem okL.ok {v : V} (h : okL v) : okW v := by
  cases v with
  | int i =>
    have h : i.natAbs ≤ 100 := h
    show i.natAbs < 10 ^ 60
    omega
  | str z => exact h.elim (fun a => .inl (six_name a)) .inr
  | _ => exact h.elim
def LawTerm (H : Hp) (t : Addr) (m : Nat) (ws : List V) : Prop := H t = some (.tup ws) ∧ (∀ v ∈ ws, okL v) ∧ isTerm ws ∧ ws.length ≤ m
def intAt (σ : L2.St) (i : Nat) : Nat := match σ[i]? with | some (some (.int x)) => x.toNat | _ => 0
def spBehind (K : PySem.W.Frag) : Sp := fun vs H Q _ => ∃ (t : Addr) (ws : List V) (p n : Nat), vs = [.ref t, .int (p : Int)] ∧ SqT K H t ws ∧ (∀ v ∈ ws, isW v) ∧ ws.length ≤ 1000 ∧ eat 1 ((ws.drop p).map arV) = some n ∧ ∀ H', Same H H' → Q (.int ((p : Int) + (n : Int))) H'
def lawV (ρ : Str → Option Int) : Prop := ∀ z ∈ six, ∃ i, ρ z = some i ∧ i.natAbs ≤ 100
theorem okL.low {ρ : Str → Option Int} (hρ : lawV ρ) {v : V} (h : okL v) : lowW ρ v := by
  have m7 : ∀ i : Int, i.natAbs ≤ 100 → mag i ≤ 2 ^ 7 := fun i hi => Nat.max_le.mpr ⟨by omega, by decide⟩
  cases v with
  | int n =>
    refine ⟨isW.int n, True.intro, fun i e => ?_⟩
    have e : V.int n = V.int i := e
    cases e
    exact m7 _ h
  | str z =>
    rcases h with h | h
    · obtain ⟨i, hi, hb⟩ := hρ z h
      have a0 : arS z = 0 := name_ar (six_name h)
      refine ⟨isW.str z, .inr (by rw [hi]; rfl), fun x e => ?_⟩
      have e : (if 0 < arS z then V.str z else V.int ((ρ z).getD 0)) = V.int x := e
      rw [if_neg (by omega), hi] at e
      cases e
      exact m7 _ hb
    · refine ⟨isW.str z, .inl h, fun x e => ?_⟩
      have e : (if 0 < arS z then V.str z else V.int ((ρ z).getD 0)) = V.int x := e
      rw [if_pos h] at e
      cases e
  | _ => exact h.elim
def valsOk (i : Nat) (kvs : List (Key × V)) : Prop := (∀ z v, valV kvs (Sum.inr z) = some v → ∃ x : Int, v = .int x) ∧ ∀ z ∈ six.take i, ∃ x : Int, valV kvs (Sum.inr z) = some (.int x) ∧ x.natAbs ≤ 100
theorem valsOk.put {i : Nat} {kvs : List (Key × V)} (h : valsOk i kvs) {z : Str} (hz : six[i]? = some z) {x : Int} (hx : x.natAbs ≤ 100) : valsOk (i + 1) (putK kvs (Sum.inr z) (.int x)) := by
  constructor
  · intro y v e
    rw [valV_put] at e
    by_cases hy : (Sum.inr y : Key) = Sum.inr z
    · rw [if_pos hy] at e
      exact ⟨x, (Option.some.inj e).symm⟩
    · rw [if_neg hy] at e
      exact h.1 y v e
  · intro y hy
    rw [valV_put]
    by_cases e : (Sum.inr y : Key) = Sum.inr z
    · rw [if_pos e]
      exact ⟨x, rfl, hx⟩
    · rw [if_neg e]
      rw [List.take_add_one, hz] at hy
      rcases List.mem_append.mp hy with hy | hy
      · exact h.2 y hy
      · have : y = z := by simpa using hy
        exact absurd (by rw [this]) e
theorem valsOk.vals {kvs : List (Key × V)} (h : valsOk 6 kvs) {H : Hp} {a : Addr} (ha : H a = some (.dK kvs)) : ∃ ρ, ValsAt H a ρ ∧ lawV ρ := by
  refine ⟨fun z => match valV kvs (Sum.inr z) with | some (.int x) => some x | _ => none, ⟨kvs, ha, fun z => ?_⟩, fun z hz => ?_⟩
  · show valV kvs (Sum.inr z) = Option.map V.int (match valV kvs (Sum.inr z) with | some (.int x) => some x | _ => none)
    generalize e : valV kvs (Sum.inr z) = r
    cases r with
    | none => rfl
    | some v =>
      obtain ⟨x, rfl⟩ := h.1 z v e
      rfl
  · obtain ⟨x, hx, hb⟩ := h.2 z (by rw [show six.take 6 = six from rfl]; exact hz)
    refine ⟨x, ?_, hb⟩
    show (match valV kvs (Sum.inr z) with | some (.int x) => some x | _ => none) = some x
    rw [hx]
theorem LawTerm.same {H H' : Hp} {t : Addr} {m : Nat} {ws : List V} (h : LawTerm H t m ws) (s : Same H H') : LawTerm H' t m ws := ⟨s _ _ h.1, h.2⟩
theorem LawTerm.sameB {H H' : Hp} {d b t : Addr} {ns : List Int} {n m : Nat} {ws : List V} (h : LawTerm H t m ws) (hD : Deck H d b ns n) (s : SameB d H H') : LawTerm H' t m ws := ⟨s _ _ (ne_of h.1 hD.1 (by intro e; cases e)) h.1, h.2⟩
theorem LawTerm.le {H : Hp} {t : Addr} {m k : Nat} {ws : List V} (h : LawTerm H t m ws) (l : m ≤ k) : LawTerm H t k ws := ⟨h.1, h.2.1, h.2.2.1, Nat.le_trans h.2.2.2 l⟩
end Pc
namespace L2.Srt
open PySem PySem.W PyProof.Rows
section
variable {cmp : Nat → Nat → (Bool → Shared → Prop) → Shared → Prop} {N : Nat} {r : Nat → Int} {s : Shared}
def Cmp (cmp : Nat → Nat → (Bool → Shared → Prop) → Shared → Prop) (N : Nat) (r : Nat → Int) (s : Shared) : Prop := ∀ i j C, i < N → j < N → C (decide (r i < r j)) s → cmp i j C s
def PermR (N : Nat) (p : Array Nat) : Prop := p.toList.Perm (List.range N)
theorem PermR.size {p : Array Nat} (h : PermR N p) : p.size = N := by
  have := h.length_eq
  rw [Array.length_toList, List.length_range] at this
  exact this
theorem PermR.lt {p : Array Nat} (h : PermR N p) {k : Nat} (hk : k < N) : p.getD k 0 < N := by
  have hs := h.size
  have e : p.getD k 0 = p[k]'(by omega) := by simp [Array.getD, hs, hk]
  rw [e]
  have : p[k]'(by omega) ∈ p.toList := by simp
  exact List.mem_range.mp (h.mem_iff.mp this)
theorem PermR.of {p q : Array Nat} (h : PermR N p) (e : q.Perm p) : PermR N q := (Array.perm_iff_toList_perm.mp e).trans h
def R (r : Nat → Int) (p : Array Nat) (i : Nat) : Int := r (p.getD i 0)
theorem R_congr {p q : Array Nat} {i j : Nat} (h : p[i]? = q[j]?) : R r p i = R r q j := by
  unfold R
  rw [Array.getD_eq_getD_getElem?, Array.getD_eq_getD_getElem?, h]
def Inc (r : Nat → Int) (p : Array Nat) (k : Nat) : Prop := ∀ i j, i ≤ j → j < k → R r p i ≤ R r p j
def Dec (r : Nat → Int) (p : Array Nat) (k : Nat) : Prop := ∀ i j, i ≤ j → j < k → R r p j ≤ R r p i
theorem R_mirror {p : Array Nat} {i j : Nat} (hj : j ≤ p.size) (k : Nat) : R r (kas_rev p i j) k = if i ≤ k ∧ k < j then R r p (i + j - 1 - k) else R r p k := by
  have e := getElem?_mirror_all (i := i) hj k
  by_cases h1 : i ≤ k ∧ k < j
  · rw [if_pos h1] at e ⊢; exact R_congr e
  · rw [if_neg h1] at e ⊢; exact R_congr e
theorem R_mirror_equal {p : Array Nat} {i j : Nat} (hj : j ≤ p.size) (heq : ∀ k, i ≤ k → k < j → R r p k = R r p (j - 1)) (k : Nat) : R r (kas_rev p i j) k = R r p k := by
  rw [R_mirror hj]
  split
  · rename_i h
    rw [heq _ (by omega) (by omega), heq k h.1 h.2]
  · rfl
theorem rev_perm {p : Array Nat} {i j : Nat} (h : PermR N p) : PermR N (kas_rev p i j) := h.of (mirror_perm _ _ _ _)
theorem Inc.more {p : Array Nat} {k : Nat} (h : Inc r p k) (hk : 1 ≤ k) (e : R r p (k - 1) ≤ R r p k) : Inc r p (k + 1) := by
  intro i j hij hj
  by_cases h1 : j < k
  · exact h i j hij h1
  · have : j = k := by omega
    subst this
    by_cases h2 : i = j
    · subst h2; exact Int.le_refl _
    · have := h i (j - 1) (by omega) (by omega)
      omega
theorem Dec.more {p : Array Nat} {k : Nat} (h : Dec r p k) (hk : 1 ≤ k) (e : R r p k ≤ R r p (k - 1)) : Dec r p (k + 1) := by
  intro i j hij hj
  by_cases h1 : j < k
  · exact h i j hij h1
  · have : j = k := by omega
    subst this
    by_cases h2 : i = j
    · subst h2; exact Int.le_refl _
    · have := h i (j - 1) (by omega) (by omega)
      omega
theorem wp_asc (hc : Cmp cmp N r s) {p : Array Nat} (hp : PermR N p) {Q : Nat → Shared → Prop} : ∀ (f n : Nat), 1 ≤ n → n + f ≤ N → Inc r p n → (∀ m, n ≤ m → m ≤ n + f → Inc r p m → (m = n + f ∨ R r p m < R r p (m - 1)) → Q m s) → (kas_asc p f n).kasWp cmp Q s
  | 0, n, _, _, hi, q => q n (Nat.le_refl _) (Nat.le_refl _) hi (.inl rfl)
  | f + 1, n, h1, hn, hi, q => by
    show cmp _ _ _ s
    refine hc _ _ _ (hp.lt (by omega)) (hp.lt (by omega)) ?_
    by_cases c : r (p.getD n 0) < r (p.getD (n - 1) 0)
    · rw [decide_eq_true c]
      show KasT.kasWp cmp (if true = true then _ else _) Q s
      rw [if_pos rfl]
      exact q n (Nat.le_refl _) (by omega) hi (.inr c)
    · rw [decide_eq_false c]
      show KasT.kasWp cmp (if false = true then _ else _) Q s
      rw [if_neg (by decide)]
      exact wp_asc hc hp f (n + 1) (by omega) (by omega) (hi.more h1 (by have : R r p n = r (p.getD n 0) := rfl; have : R r p (n - 1) = r (p.getD (n - 1) 0) := rfl; omega)) fun m a b c d => q m (by omega) (by omega) c (d.elim (fun d => .inl (by omega)) .inr)
theorem wp_desc (hc : Cmp cmp N r s) {Q : Array Nat × Nat × Nat → Shared → Prop} : ∀ (f : Nat) (p : Array Nat) (n k : Nat), PermR N p → 1 ≤ n → n + f ≤ N → Dec r p n → k + 1 ≤ n → (∀ i, n - (k + 1) ≤ i → i < n → R r p i = R r p (n - 1)) →
    (∀ p' n' k', PermR N p' → n ≤ n' → n' ≤ N → Dec r p' n' → k' + 1 ≤ n' → (∀ i, n' - (k' + 1) ≤ i → i < n' → R r p' i = R r p' (n' - 1)) → Q (p', n', k') s) → (kas_desc f p n k).kasWp cmp Q s
  | 0, p, n, k, hp, _, hn, hd, hk, he, q => q p n k hp (Nat.le_refl _) (by omega) hd hk he
  | f + 1, p, n, k, hp, h1, hn, hd, hk, he, q => by
    show cmp _ _ _ s
    refine hc _ _ _ (hp.lt (by omega)) (hp.lt (by omega)) ?_
    have hsz := hp.size
    have e1 : R r p n = r (p.getD n 0) := rfl
    have e2 : R r p (n - 1) = r (p.getD (n - 1) 0) := rfl
    by_cases c : r (p.getD n 0) < r (p.getD (n - 1) 0)
    · rw [decide_eq_true c]
      show KasT.kasWp cmp (if true = true then _ else _) Q s
      rw [if_pos rfl]
      by_cases hk0 : k > 0
      · rw [if_pos hk0]
        have eq := R_mirror_equal (r := r) (p := p) (i := n - (k + 1)) (j := n) (by omega) he
        refine wp_desc hc f _ (n + 1) 0 (rev_perm hp) (by omega) (by omega) ?_ (by omega) (fun i a b => by rw [show i = n + 1 - 1 by omega]) fun p' n' k' a b c d e g => q p' n' k' a (by omega) c d e g
        intro i j hij hj
        rw [eq, eq]
        exact (hd.more h1 (by omega)) i j hij hj
      · rw [if_neg hk0]
        exact wp_desc hc f p (n + 1) 0 hp (by omega) (by omega) (hd.more h1 (by omega)) (by omega) (fun i a b => by rw [show i = n + 1 - 1 by omega]) fun p' n' k' a b c d e g => q p' n' k' a (by omega) c d e g
    · rw [decide_eq_false c]
      show KasT.kasWp cmp (if false = true then _ else _) Q s
      rw [if_neg (by decide)]
      show cmp _ _ _ s
      refine hc _ _ _ (hp.lt (by omega)) (hp.lt (by omega)) ?_
      by_cases c2 : r (p.getD (n - 1) 0) < r (p.getD n 0)
      · rw [decide_eq_true c2]
        show KasT.kasWp cmp (if true = true then _ else _) Q s
        rw [if_pos rfl]
        exact q p n k hp (Nat.le_refl _) (by omega) hd hk he
      · rw [decide_eq_false c2]
        show KasT.kasWp cmp (if false = true then _ else _) Q s
        rw [if_neg (by decide)]
        refine wp_desc hc f p (n + 1) (k + 1) hp (by omega) (by omega) (hd.more h1 (by omega)) (by omega) (fun i a b => ?_) fun p' n' k' a b c d e g => q p' n' k' a (by omega) c d e g
        by_cases hi : i < n
        · rw [he i (by omega) hi, show n + 1 - 1 = n by omega]
          omega
        · rw [show i = n + 1 - 1 by omega]
theorem wp_tail3 (hc : Cmp cmp N r s) {p : Array Nat} (hp : PermR N p) {n : Nat} (h1 : 1 ≤ n) (hn : n ≤ N) (hd : Dec r p n) {Q : Nat × Array Nat → Shared → Prop} (q : ∀ m p', PermR N p' → 1 ≤ m → m ≤ N → Inc r p' m → Q (m, p') s) : (kas_tail3 n N p).kasWp cmp Q s := by
  unfold kas_tail3
  rw [KasT.kasWp_bind]
  have hsz := hp.size
  refine wp_asc hc (rev_perm hp) (N - n) n h1 (by omega) (fun i j hij hj => ?_) fun m a b c d => q m _ (rev_perm hp) (by omega) (by omega) c
  rw [R_mirror (by omega), R_mirror (by omega), if_pos ⟨Nat.zero_le _, by omega⟩, if_pos ⟨Nat.zero_le _, hj⟩]
  exact hd _ _ (by omega) (by omega)
theorem wp_descPart (hc : Cmp cmp N r s) {p : Array Nat} (hp : PermR N p) {n : Nat} (h1 : 1 ≤ n) (hn : n + 1 ≤ N) (hd : Dec r p (n + 1)) {Q : Nat × Array Nat → Shared → Prop} (q : ∀ m p', PermR N p' → 1 ≤ m → m ≤ N → Inc r p' m → Q (m, p') s) : (kas_descPart n N p).kasWp cmp Q s := by
  unfold kas_descPart
  rw [KasT.kasWp_bind]
  refine wp_desc hc (N - (n + 1)) p (n + 1) 0 hp (by omega) (by omega) hd (by omega) (fun i a b => by rw [show i = n + 1 - 1 by omega]) fun p' n' k' hp' a b hd' hk he => ?_
  have hsz := hp'.size
  by_cases hk0 : k' > 0
  · show KasT.kasWp cmp (if k' > 0 then _ else _) Q s
    rw [if_pos hk0]
    refine wp_tail3 hc (rev_perm hp') (by omega) b (fun i j hij hj => ?_) q
    have eq := R_mirror_equal (r := r) (p := p') (i := n' - (k' + 1)) (j := n') (by omega) he
    rw [eq, eq]
    exact hd' i j hij hj
  · show KasT.kasWp cmp (if k' > 0 then _ else _) Q s
    rw [if_neg hk0]
    exact wp_tail3 hc hp' (by omega) b hd' q
theorem wp_count (hc : Cmp cmp N r s) {p : Array Nat} (hp : PermR N p) (h2 : 2 ≤ N) {Q : Nat × Array Nat → Shared → Prop} (q : ∀ m p', PermR N p' → 1 ≤ m → m ≤ N → Inc r p' m → Q (m, p') s) : (kas_count N p).kasWp cmp Q s := by
  unfold kas_count
  rw [KasT.kasWp_bind]
  have hsz := hp.size
  refine wp_asc hc hp (N - 1) 1 (Nat.le_refl _) (by omega) (fun i j a b => by rw [show i = j by omega]; exact Int.le_refl _) fun m a b hi hm => ?_
  show KasT.kasWp cmp (if (m == N) = true then _ else _) Q s
  by_cases e : m = N
  · rw [if_pos (by simp [e])]
    exact q m p hp a (by omega) hi
  · rw [if_neg (by simp [e])]
    have lt : R r p m < R r p (m - 1) := hm.resolve_left (by omega)
    by_cases h1 : m > 1
    · rw [if_pos h1]
      show cmp _ _ _ s
      refine hc _ _ _ (hp.lt (by omega)) (hp.lt (by omega)) ?_
      by_cases c : r (p.getD 0 0) < r (p.getD (m - 1) 0)
      · rw [decide_eq_true c]
        show KasT.kasWp cmp (if true = true then _ else _) Q s
        rw [if_pos rfl]
        exact q m p hp a (by omega) hi
      · rw [decide_eq_false c]
        show KasT.kasWp cmp (if false = true then _ else _) Q s
        rw [if_neg (by decide)]
        have e0 : R r p 0 = r (p.getD 0 0) := rfl
        have e1 : R r p (m - 1) = r (p.getD (m - 1) 0) := rfl
        have all : ∀ k, 0 ≤ k → k < m → R r p k = R r p (m - 1) := fun k _ hk => by
          have a1 := hi 0 k (Nat.zero_le _) hk
          have a2 := hi k (m - 1) (by omega) (by omega)
          omega
        have eq := R_mirror_equal (r := r) (p := p) (i := 0) (j := m) (by omega) all
        refine wp_descPart hc (rev_perm hp) a (by omega) (fun i j hij hj => ?_) q
        rw [eq, eq]
        by_cases hjm : j = m
        · subst hjm
          by_cases him : i = j
          · subst him; exact Int.le_refl _
          · rw [all i (Nat.zero_le _) (by omega)]
            omega
        · rw [all i (Nat.zero_le _) (by omega), all j (Nat.zero_le _) (by omega)]
          exact Int.le_refl _
    · rw [if_neg h1]
      have m1 : m = 1 := by omega
      subst m1
      refine wp_descPart hc hp (Nat.le_refl _) (by omega) (fun i j hij hj => ?_) q
      by_cases hij' : i = j
      · subst hij'; exact Int.le_refl _
      · rw [show i = 1 - 1 by omega, show j = 1 by omega]
        omega
end
end L2.Srt
namespace L2.Srt
open PySem PySem.W PyProof.Rows
def midHeap (h : Heap) (a : Addr) (vs : List Value) : Heap := ((h.update a (Obj.mapSeq fun _ => #[])).push (seqObj "tuple" vs.toArray 0)).push (seqObj "list" #[] 0)
section
variable {prog : Program} {w : World} {A : Around} {E : Value → Shared → Prop} {s : Shared} {r : Nat → Int}
def preHeap (h : Heap) (vs : List Value) : Heap := ((h.push (seqObj "list" #[] 0)).update h.objs.size (Obj.mapSeq (· ++ vs.toArray))).push (seqObj "list" vs.toArray 0)
end
end L2.Srt
namespace L2
open PySem PySem.Spec PyProof.Rows Srt
section
variable {X : Cx}
end
end L2
namespace PySem.SeqAt
open PySem PySem.Spec PySem.Calls
def LtAt (A : Around) (s : Shared) (x y : Value) (b : Bool) : Prop := ∀ (prog : Program) (w : World) (E : Value → Shared → Prop) (Q : Value → Shared → Prop), Q (.bool b) s → wpAny (model prog w) A (richCompare .Lt x y) Q E s
def lexB (e c : Nat → Bool) (d : Bool) : List Nat → Bool
  | [] => d
  | j :: r => if e j then lexB e c d r else c j
theorem tuple_ltAt (l b : Addr) (items items2 : Array Value) (n n2 : Nat) (dd dd2 : Option Addr) (sl sl2 : Array (Option Value)) (e c : Nat → Bool) :
    Meets (Builtin.«tuple.__lt__» ⟨[.ref l, .ref b], []⟩)
      (fun A R s => s.heap.get? l = some { cls := .type "tuple", dict := dd, data := .seq items n, slots := sl } ∧ s.heap.get? b = some { cls := .type "tuple", dict := dd2, data := .seq items2 n2, slots := sl2 } ∧
        (∀ j (h1 : j < items.size) (h2 : j < items2.size), EqAt A.in1 s items[j] items2[j] (e j)) ∧
        (∀ j (h1 : j < items.size) (h2 : j < items2.size), e j = false → LtAt A.in1 s items[j] items2[j] (c j)) ∧
        R (.ok (.ret (.bool (lexB e c (decide (items.size < items2.size)) (List.range (min items.size items2.size)))))) s) :=
  .of_wp fun prog w A R s h => by
    obtain ⟨hp, g, d, tk, os⟩ := s; obtain ⟨hl, hb, he, hc, h⟩ := h
    have f2 := AutoSeq1.sub_tuple_tuple
    have hZ : (items.toList.zip items2.toList).length = min items.size items2.size := by simp
    wp_walk using wpAny_loadPart' hl, wpAny_loadPart' hb, wpAny_forIn_list _ (fun rest b s' => b.1 = none ∧ s' = ⟨hp, g, d, tk, os⟩ ∧ ∃ i, rest = (items.toList.zip items2.toList).drop i ∧
      R (.ok (.ret (.bool (lexB e c (decide (items.size < items2.size)) ((List.range (min items.size items2.size)).drop i))))) ⟨hp, g, d, tk, os⟩) _
    case turn =>
      rintro ⟨y, x⟩ rest b s' ⟨hb', rfl, i, hz, hR⟩
      have hlt : i < (items.toList.zip items2.toList).length := by
        rcases Nat.lt_or_ge i (items.toList.zip items2.toList).length with h' | h'
        · exact h'
        · rw [List.drop_of_length_le h'] at hz; cases hz
      have hm : i < min items.size items2.size := hZ ▸ hlt
      have h1 : i < items.size := Nat.lt_of_lt_of_le hm (Nat.min_le_left _ _)
      have h2 : i < items2.size := Nat.lt_of_lt_of_le hm (Nat.min_le_right _ _)
      rw [List.drop_eq_getElem_cons hlt] at hz
      injection hz with hyx hrest
      have hy : y = items[i] := by have := congrArg Prod.fst hyx; simpa using this
      have hx : x = items2[i] := by have := congrArg Prod.snd hyx; simpa using this
      subst hy hx
      have hd : (List.range (min items.size items2.size)).drop i = i :: (List.range (min items.size items2.size)).drop (i + 1) := by simp [List.drop_eq_getElem_cons, hm]
      rw [hd] at hR
      unfold lexB at hR
      refine wpAny_bind (he i h1 h2 prog w _ _ ?_)
      cases hy : e i with
      | true =>
        rw [hy] at hR
        wp_walk
        exact ⟨rfl, rfl, i + 1, hrest, by simpa using hR⟩
      | false =>
        rw [hy] at hR
        rw [if_pos (show (!false) = true from rfl)]
        dsimp only
        refine wpAny_bind (wpAny_rule ?_)
        refine wpAny_bind (hc i h1 h2 hy prog w _ _ ?_)
        wp_walk
        exact ⟨_, rfl, by simpa using hR⟩
    case fin =>
      rintro ⟨b1, b2⟩ s' ⟨hb', rfl, i, hz, hR⟩
      simp only at hb'
      subst hb'
      have hge : min items.size items2.size ≤ i := by
        rcases Nat.lt_or_ge i (items.toList.zip items2.toList).length with h' | h'
        · rw [List.drop_eq_getElem_cons h'] at hz; cases hz
        · exact hZ ▸ h'
      rw [List.drop_of_length_le (by simpa using hge)] at hR
      wp_walk
      exact ⟨_, rfl, by simpa [Builtin.Tuple.tupleCompareSizes, lexB] using hR⟩
    case h =>
      exact ⟨rfl, rfl, 0, rfl, by simpa using h⟩
section
variable {A : Around} {s : Shared}
theorem LtAt.tuples {l b : Addr} {items items2 : Array Value} {e c : Nat → Bool} (hl : s.heap.IsTuple l items) (hb : s.heap.IsTuple b items2) (hu : A.units < cLine)
    (he : ∀ j (h1 : j < items.size) (h2 : j < items2.size), EqAt A.in1 s items[j] items2[j] (e j)) (hc : ∀ j (h1 : j < items.size) (h2 : j < items2.size), e j = false → LtAt A.in1 s items[j] items2[j] (c j)) :
    LtAt A s (.ref l) (.ref b) (lexB e c (decide (items.size < items2.size)) (List.range (min items.size items2.size))) := fun prog w E Q h => by
  obtain ⟨⟨cls, dd, data, sl⟩, ho, hc1, n, hd⟩ := id hl
  obtain ⟨⟨cls2, dd2, data2, sl2⟩, ho2, hc2, n2, hd2⟩ := id hb
  simp only at hc1 hd hc2 hd2
  subst hc1 hd hc2 hd2
  exact richCompare_meets_room (op := .Lt) ⟨_, ho, rfl⟩ ⟨_, ho2, rfl⟩ F.slot_tuple_lt F.entry_tuple_lt (F.args_tuple_lt_2 _ _) (tuple_ltAt l b items items2 n n2 dd dd2 sl sl2 e c)
    ⟨ho, ho2, he, hc, show Value.bool _ ≠ Value.notImplemented ∧ Q (.bool _) s from ⟨(fun x => nomatch x), h⟩⟩ hu
theorem LtAt.str {x y : Str} {t u : Tok} : LtAt A s (.str x t) (.str y u) (decide (x.cps.toList < y.cps.toList)) := fun prog w E Q h => by
  refine wpAny_richCompare_same (T := "str") (id := "str.__lt__") (op := .Lt) (typeIs_str s x t) (typeIs_str s y u) PyProof.Rows.slot_str_lt (PyProof.Rows.call_str_lt ?_)
  exact ⟨(fun x => nomatch x), h⟩
end
end PySem.SeqAt
namespace L2
open PySem PySem.Spec PyProof.Rows Srt
theorem countP_lt {α : Type} {p q : α → Bool} : ∀ {l : List α}, (∀ x ∈ l, p x = true → q x = true) → (∃ x ∈ l, q x = true ∧ p x = false) → l.countP p < l.countP q
  | [], _, h => by obtain ⟨x, hx, _⟩ := h; cases hx
  | a :: t, hm, h => by
    rw [List.countP_cons, List.countP_cons]
    have mono := List.countP_mono_left (l := t) (fun x hx => hm x (List.mem_cons_of_mem _ hx))
    have ha := hm a List.mem_cons_self
    by_cases hw : q a = true ∧ p a = false
    · rw [hw.1, hw.2]
      simp
      omega
    · have : ∃ x ∈ t, q x = true ∧ p x = false := by
        obtain ⟨x, hx, hq⟩ := h
        rcases List.mem_cons.mp hx with rfl | hx
        · exact absurd hq hw
        · exact ⟨x, hx, hq⟩
      have ih := countP_lt (fun x hx => hm x (List.mem_cons_of_mem _ hx)) this
      cases hp : p a with
      | true => rw [ha hp]; simp; omega
      | false => cases q a <;> simp <;> omega
def rank (n : Nat) (lt : Nat → Nat → Bool) (i : Nat) : Int := (((List.range n).countP fun k => lt k i : Nat) : Int)
structure Ord (n : Nat) (lt : Nat → Nat → Bool) : Prop where
  irr : ∀ i, i < n → lt i i = false
  tr : ∀ i j k, i < n → j < n → k < n → lt i j = true → lt j k = true → lt i k = true
  neg : ∀ i j k, i < n → j < n → k < n → lt i k = true → lt i j = true ∨ lt j k = true
theorem Ord.rank {n : Nat} {lt : Nat → Nat → Bool} (o : Ord n lt) {i j : Nat} (hi : i < n) (hj : j < n) : decide (rank n lt i < rank n lt j) = lt i j := by
  cases h : lt i j with
  | true =>
    apply decide_eq_true
    have : (List.range n).countP (fun k => lt k i) < (List.range n).countP fun k => lt k j := countP_lt (fun k hk e => o.tr k i j (List.mem_range.mp hk) hi hj e h) ⟨i, List.mem_range.mpr hi, h, o.irr i hi⟩
    unfold L2.rank
    omega
  | false =>
    apply decide_eq_false
    have : (List.range n).countP (fun k => lt k j) ≤ (List.range n).countP fun k => lt k i := List.countP_mono_left fun k hk e => by
      rcases o.neg k i j (List.mem_range.mp hk) hi hj e with e | e
      · exact e
      · rw [h] at e; cases e
    unfold L2.rank
    omega
section
variable {P : Program} {w : World} {A : Around} {H : Hp}
end
end L2
namespace L2.Srt
open PySem PySem.W PyProof.Rows
end L2.Srt
namespace L2
open PySem PySem.Spec PyProof.Rows Srt
section
variable {P : Program} {w : World} {A : Around} {H : Hp}
end
end L2
namespace L2
open PySem PySem.Spec PyProof.Rows
section
variable {X : Cx}
end
end L2
namespace L2
open PySem PySem.Spec PyProof.Rows
section
variable {X : Cx} {pins : List (Addr × Obj)} {σ σ' : St} {H H0 : Hp} {s s0 : Shared} {a : Addr} {kvs kvs' : List (Key × V)} {o : Obj}
end
section
variable {X : Cx} {tg : Expr}
end
section
variable {X : Cx}
theorem vals_of_get : ∀ {xs : List V} {us : List Value}, xs.length = us.length → (∀ (i : Nat) (x : V), xs[i]? = some x → ∃ u, us[i]? = some u ∧ RelV x u) → Vals xs us
  | [], [], _, _ => .nil
  | x :: xs, u :: us, hl, h => by
    refine .cons ?_ (vals_of_get (by simpa using hl) fun i y hy => ?_)
    · obtain ⟨u', e, r⟩ := h 0 x rfl
      cases e
      exact r
    · obtain ⟨u', e, r⟩ := h (i + 1) y (by simpa using hy)
      exact ⟨u', by simpa using e, r⟩
  | [], _ :: _, hl, _ => by simp at hl
  | _ :: _, [], hl, _ => by simp at hl
theorem call_range1 : CallR X (.type "range") (fun xs H Q => ∃ j : Int, xs = [.int j] ∧ ∀ l, H l = none → Q (.ref l) (upd H l (.rng 0 j))) := by
  intro pins s σ H xs us Q I r h
  obtain ⟨j, rfl, q⟩ := h
  obtain ⟨u, rfl, rx⟩ := vals1 r
  obtain ⟨t, rfl⟩ := rx
  refine call_range_1 ?_
  exact ⟨.ref s.heap.objs.size, _, I.laid (fun b o e => Heap.get?_push_of_some _ e) (Nat.le_refl _) (show ObjOk X.prog X.w _ _ _ (.rng 0 j) from ⟨_, _, _, Heap.get?_push_size _ rfl⟩), rfl, q _ (I.hok.fresh (Nat.le_refl _))⟩
end
end L2
namespace L2
open PySem PySem.Spec PyProof.Rows
section
variable {X : Cx}
end
end L2
namespace L2.Srt
open PySem PySem.W PyProof.Rows PySem.Spec
section
variable {prog : Program} {w : World} {A : Around} {E : Value → Shared → Prop} {s : Shared}
end
end L2.Srt
namespace L2
open PySem PySem.Spec PyProof.Rows Srt
section
variable {X : Cx}
theorem ints_vals : ∀ {vs : List Value} {ns : List Int}, IntsAre vs ns → Vals (ns.map V.int) vs
  | _, _, .nil => .nil
  | _, _, .cons _ t r => .cons ⟨t, rfl⟩ (ints_vals r)
theorem ints_of : ∀ {vs : List Value} {ns : List Int}, Vals (ns.map V.int) vs → IntsAre vs ns
  | [], [], _ => .nil
  | v :: vs, n :: ns, .cons r t => by
    obtain ⟨k, rfl⟩ := r
    exact .cons _ _ (ints_of t)
end
end L2
namespace Pc
open PySem PySem.Spec L2 PyProof.Rows
section
variable {κ : Type} [DecidableEq κ]
theorem mem_put {kvs : List (κ × V)} {k : κ} {v : V} {p : κ × V} (h : p ∈ putK kvs k v) : p ∈ kvs ∨ p = (k, v) := by
  unfold putK at h
  split at h
  · obtain ⟨q, hq, rfl⟩ := List.mem_map.mp h
    by_cases e : q.1 = k
    · rw [if_pos e, e]
      exact .inr rfl
    · rw [if_neg e]
      exact .inl hq
  · rcases List.mem_append.mp h with h | h
    · exact .inl h
    · exact .inr (List.mem_singleton.mp h)
end
inductive RowAt (vals kvs : List (Key × V)) : List V → Int → Int → Prop
  | put (b n : Int) : RowAt vals kvs [.str "put", .int b, .int n] b n
  | load (b : Int) (z : Str) (n : Int) (h : valV vals (Sum.inr z) = some (.int n)) : RowAt vals kvs [.str "load", .int b, .str z] b n
  | neg (b x m : Int) (h : valV kvs (Sum.inl x) = some (.int m)) (b1 : bitsOk m) : RowAt vals kvs [.str "neg", .int b, .int x] b (-m)
  | bin (z : Str) (b x y m n : Int) (hz : arS z = 2) (h1 : valV kvs (Sum.inl x) = some (.int m)) (h2 : valV kvs (Sum.inl y) = some (.int n)) (b1 : bitsOk m) (b2 : bitsOk n) : RowAt vals kvs [.str z, .int b, .int x, .int y] b (opN z m n)
def boxes (fs : List (Int × Int)) : List (Key × V) := fs.foldl (fun k p => putK k (Sum.inl p.1) (.int p.2)) []
theorem boxes_snoc (fs : List (Int × Int)) (b n : Int) : boxes (fs ++ [(b, n)]) = putK (boxes fs) (Sum.inl b) (.int n) := by
  unfold boxes
  rw [List.foldl_append]
  rfl
def RunsAt (vals : List (Key × V)) (ts : List (List V)) (fs : List (Int × Int)) : Prop := ts.length = fs.length ∧ ∀ (i : Nat) (p : Int × Int), fs[i]? = some p → ∃ t, ts[i]? = some t ∧ RowAt vals (boxes (fs.take i)) t p.1 p.2
theorem RunsAt.nil (vals : List (Key × V)) : RunsAt vals [] [] := ⟨rfl, fun i p h => by simp at h⟩
theorem RunsAt.snoc {vals : List (Key × V)} {ts : List (List V)} {fs : List (Int × Int)} (h : RunsAt vals ts fs) {t : List V} {b n : Int} (r : RowAt vals (boxes fs) t b n) : RunsAt vals (ts ++ [t]) (fs ++ [(b, n)]) := by
  refine ⟨by rw [List.length_append, List.length_append, h.1]; rfl, fun i p hp => ?_⟩
  by_cases hi : i < fs.length
  · rw [List.getElem?_append_left hi] at hp
    obtain ⟨t', h1, h2⟩ := h.2 i p hp
    exact ⟨t', by rw [List.getElem?_append_left (by rw [h.1]; exact hi)]; exact h1, by rw [List.take_append_of_le_length (Nat.le_of_lt hi)]; exact h2⟩
  · have hl := (List.getElem?_eq_some_iff.mp hp).1
    rw [List.length_append, List.length_singleton] at hl
    have e : i = fs.length := by omega
    subst e
    rw [List.getElem?_append_right (Nat.le_refl _), Nat.sub_self] at hp
    have e : (b, n) = p := Option.some.inj hp
    subst e
    refine ⟨t, by rw [List.getElem?_append_right (by rw [h.1]; exact Nat.le_refl _), h.1, Nat.sub_self]; rfl, ?_⟩
    rw [List.take_left' rfl]
    exact r
def RowsIn (H : Hp) (rs : List V) (ts : List (List V)) : Prop := rs.length = ts.length ∧ ∀ (i : Nat) (t : List V), ts[i]? = some t → ∃ a, rs[i]? = some (.ref a) ∧ H a = some (.tup t)
theorem RowsIn.same {H H' : Hp} {rs : List V} {ts : List (List V)} (h : RowsIn H rs ts) (s : Same H H') : RowsIn H' rs ts := ⟨h.1, fun i t ht => by
  obtain ⟨a, h1, h2⟩ := h.2 i t ht
  exact ⟨a, h1, s _ _ h2⟩⟩
theorem RowsIn.nil (H : Hp) : RowsIn H [] [] := ⟨rfl, fun i t h => by simp at h⟩
theorem RowsIn.snoc {H : Hp} {rs : List V} {ts : List (List V)} (h : RowsIn H rs ts) {a : Addr} {t : List V} (ha : H a = some (.tup t)) : RowsIn H (rs ++ [.ref a]) (ts ++ [t]) := by
  refine ⟨by rw [List.length_append, List.length_append, h.1]; rfl, fun i u hu => ?_⟩
  by_cases hi : i < ts.length
  · rw [List.getElem?_append_left hi] at hu
    obtain ⟨b, h1, h2⟩ := h.2 i u hu
    exact ⟨b, by rw [List.getElem?_append_left (by rw [h.1]; exact hi)]; exact h1, h2⟩
  · have hl := (List.getElem?_eq_some_iff.mp hu).1
    rw [List.length_append, List.length_singleton] at hl
    have e : i = ts.length := by omega
    subst e
    rw [List.getElem?_append_right (Nat.le_refl _), Nat.sub_self] at hu
    have e : t = u := Option.some.inj hu
    subst e
    exact ⟨a, by rw [List.getElem?_append_right (by rw [h.1]; exact Nat.le_refl _), h.1, Nat.sub_self]; rfl, ha⟩
def BoxB (e : Nat) (fs : List (Int × Int)) : Prop := ∀ b m : Int, (Sum.inl b, V.int m) ∈ boxes fs → m.natAbs < 2 ^ e
theorem BoxB.nil (e : Nat) : BoxB e [] := fun b m h => by cases h
theorem BoxB.le {e e' : Nat} {fs : List (Int × Int)} (h : BoxB e fs) (l : e ≤ e') : BoxB e' fs := fun b m hm => Nat.lt_of_lt_of_le (h b m hm) (Nat.pow_le_pow_right (by decide) l)
theorem BoxB.snoc {e : Nat} {fs : List (Int × Int)} (h : BoxB e fs) {b n : Int} (hn : n.natAbs < 2 ^ e) : BoxB e (fs ++ [(b, n)]) := fun x m hm => by
  rw [boxes_snoc] at hm
  rcases mem_put hm with z | z
  · exact h x m z
  · cases z
    exact hn
end Pc
namespace Pc
open PySem PySem.Spec L2 PyProof.Rows
end Pc
namespace Pc
open PySem PySem.Spec L2 PyProof.Rows
end Pc
namespace L2
open PySem PySem.Spec PyProof.Rows PySem.SeqAt PySem.MeetsSeq PySem.MeetsSeq2 PySem.MeetsSeq3
open AutoSeq1 (wpAny_loadPart')
section
variable {P : Program} {w : World} {A : Around} {E : Value → Shared → Prop} {s : Shared}
end
section
variable {X : Cx}
end
end L2
namespace L2
open PySem
theorem b_range : bootBuiltins "range" = some (.type "range") := by decide +kernel
end L2
namespace Tim
open PySem PyProof.Rows
structure TB (a₀ : Array Keyed) (st : SortSt) : Prop where
  perm : (arrOf st).Perm a₀
  kind : kindOf st = oneType'
  failed : failedOf st = none
theorem TB.size {a₀ : Array Keyed} {st : SortSt} (h : TB a₀ st) : (arrOf st).size = a₀.size := h.perm.size_eq
theorem TB.setArr {a₀ : Array Keyed} {st : SortSt} (h : TB a₀ st) {xs : Array Keyed} (hp : xs.Perm (arrOf st)) : TB a₀ (setArr st xs) := ⟨hp.trans h.perm, h.kind, h.failed⟩
theorem at_int {xs : Array Keyed} (h0 : IntKeys xs) {i : Nat} (hi : i < xs.size) : ∃ t q, xs[i]? = some (.int (K xs i) t, q) := by
  obtain ⟨n, t, hn⟩ := h0 xs[i] (by simp)
  refine ⟨t, xs[i].2, ?_⟩
  have e : xs[i]? = some xs[i] := getElem?_pos _ i hi
  have e2 : xs[i] = (.int n t, xs[i].2) := Prod.ext hn rfl
  unfold K
  rw [e, e2]
  rfl
theorem IntKeys.perm {xs ys : Array Keyed} (h : IntKeys ys) (p : xs.Perm ys) : IntKeys xs := fun q hq => h q ((Array.perm_iff_toList_perm.mp p).mem_iff.mp hq)
def Seg (xs : Array Keyed) (lo hi : Nat) : Prop := ∀ i j, lo ≤ i → i ≤ j → j < hi → K xs i ≤ K xs j
def Dsc (xs : Array Keyed) (lo hi : Nat) : Prop := ∀ i j, lo ≤ i → i ≤ j → j < hi → K xs j ≤ K xs i
theorem Seg.one (xs : Array Keyed) (lo : Nat) : Seg xs lo (lo + 1) := fun i j h1 h2 h3 => by
  have : i = j := by omega
  subst this
  exact Int.le_refl _
theorem Seg.more {xs : Array Keyed} {lo hi : Nat} (h : Seg xs lo hi) (hl : lo < hi) (e : K xs (hi - 1) ≤ K xs hi) : Seg xs lo (hi + 1) := fun i j h1 h2 h3 => by
  by_cases hj : j < hi
  · exact h i j h1 h2 hj
  · have hj' : j = hi := by omega
    subst hj'
    by_cases hi' : i = j
    · subst hi'; exact Int.le_refl _
    · exact Int.le_trans (h i (j - 1) h1 (by omega) (by omega)) e
theorem Dsc.more {xs : Array Keyed} {lo hi : Nat} (h : Dsc xs lo hi) (hl : lo < hi) (e : K xs hi ≤ K xs (hi - 1)) : Dsc xs lo (hi + 1) := fun i j h1 h2 h3 => by
  by_cases hj : j < hi
  · exact h i j h1 h2 hj
  · have hj' : j = hi := by omega
    subst hj'
    by_cases hi' : i = j
    · subst hi'; exact Int.le_refl _
    · exact Int.le_trans e (h i (j - 1) h1 (by omega) (by omega))
theorem Seg.congr {xs ys : Array Keyed} {lo hi : Nat} (h : Seg xs lo hi) (e : ∀ k, lo ≤ k → k < hi → K ys k = K xs k) : Seg ys lo hi := fun i j h1 h2 h3 => by
  rw [e i h1 (by omega), e j (by omega) h3]
  exact h i j h1 h2 h3
theorem Dsc.congr {xs ys : Array Keyed} {lo hi : Nat} (h : Dsc xs lo hi) (e : ∀ k, lo ≤ k → k < hi → K ys k = K xs k) : Dsc ys lo hi := fun i j h1 h2 h3 => by
  rw [e i h1 (by omega), e j (by omega) h3]
  exact h i j h1 h2 h3
theorem Dsc.turn {xs : Array Keyed} {lo hi : Nat} (h : Dsc xs lo hi) (hs : hi ≤ xs.size) : Seg (mirror xs lo hi ((hi - lo) / 2)) lo hi := fun i j h1 h2 h3 => by
  rw [K_mirror hs, K_mirror hs, if_pos ⟨h1, by omega⟩, if_pos ⟨by omega, h3⟩]
  exact h _ _ (by omega) (by omega) (by omega)
theorem mirror_low {xs : Array Keyed} {lo hi : Nat} (hs : hi ≤ xs.size) {k : Nat} (hk : k < lo) : K (mirror xs lo hi ((hi - lo) / 2)) k = K xs k := by
  rw [K_mirror hs, if_neg (by omega)]
structure Kept (lo : Nat) (st st' : SortSt) : Prop where
  pend : pendingOf st' = pendingOf st
  low : ∀ k, k < lo → K (arrOf st') k = K (arrOf st) k
theorem Kept.refl (lo : Nat) (st : SortSt) : Kept lo st st := ⟨rfl, fun _ _ => rfl⟩
theorem Kept.arr {lo : Nat} {st : SortSt} {xs : Array Keyed} (e : ∀ k, k < lo → K xs k = K (arrOf st) k) : Kept lo st (setArr st xs) := ⟨rfl, e⟩
theorem Kept.trans {lo : Nat} {a b c : SortSt} (h : Kept lo a b) (g : Kept lo b c) : Kept lo a c := ⟨g.pend.trans h.pend, fun k hk => (g.low k hk).trans (h.low k hk)⟩
section
variable {prog : Program} {w : World} {A : Around} {E : Value → Shared → Prop} {s : Shared} {a₀ : Array Keyed}
theorem wp_ltAt {st : SortSt} {i j : Nat} {Q : Option Bool → SortSt → Prop} (hB : TB a₀ st) (h0 : IntKeys a₀) (hi : i < a₀.size) (hj : j < a₀.size)
    (h : Q (some (decide (K (arrOf st) i < K (arrOf st) j))) st) : wpS (model prog w) A E s (ltAt' i j) Q st := by
  have hx := IntKeys.perm h0 hB.perm
  obtain ⟨t, p, e1⟩ := at_int hx (i := i) (by rw [hB.size]; exact hi)
  obtain ⟨u, q, e2⟩ := at_int hx (i := j) (by rw [hB.size]; exact hj)
  exact wpS_ltAt hB.kind e1 e2 h
theorem wp_asc {st : SortSt} {lo a nrem : Nat} {Q : AscSt → SortSt → Prop} (h0 : IntKeys a₀) (hn : lo + nrem ≤ a₀.size) (ha : 1 ≤ a) (han : a ≤ nrem) (hB : TB a₀ st) (hs : Seg (arrOf st) lo (lo + a))
    (h : ∀ n, a ≤ n → n ≤ nrem → Seg (arrOf st) lo (lo + n) → (n = nrem ∨ K (arrOf st) (lo + n) < K (arrOf st) (lo + n - 1)) → Q (none, n) st) :
    wpS (model prog w) A E s (forIn [a:nrem] ((none, a) : AscSt) fun _ r => do
      let __x ← ltAt' (lo + r.snd) (lo + r.snd - 1)
      match __x with
      | some smaller => if smaller = true then pure (ForInStep.done (none, r.snd)) else pure (ForInStep.yield (none, r.snd + 1))
      | _ => pure (ForInStep.done (some none, r.snd))) Q st := by
  refine wpS_forRange (I := fun x c st' => st' = st ∧ c = (none, x) ∧ Seg (arrOf st) lo (lo + x)) ?step ?fin ⟨rfl, rfl, hs⟩
  case fin =>
    rintro c st' ⟨rfl, rfl, hs'⟩
    rw [show max a nrem = nrem by omega] at hs' ⊢
    exact h nrem han (Nat.le_refl _) hs' (.inl rfl)
  case step =>
    rintro x c st' hax hxn ⟨rfl, rfl, hs'⟩
    dsimp only
    refine wpS_bind (wp_ltAt hB h0 (by omega) (by omega) ?_)
    by_cases hless : K (arrOf st') (lo + x) < K (arrOf st') (lo + x - 1)
    · simp only [hless, decide_true, if_true]
      exact wpS_pure (h x hax (by omega) hs' (.inr hless))
    · simp only [hless, decide_false, Bool.false_eq_true, if_false]
      exact wpS_pure ⟨rfl, rfl, hs'.more (by omega) (Int.not_lt.mp hless)⟩
end
end Tim
namespace Tim
open PySem PyProof.Rows
def ascL (lo a nrem : Nat) : StateT SortSt Sem AscSt :=
  forIn [a:nrem] ((none, a) : AscSt) fun _ r => do
      let __x ← ltAt' (lo + r.snd) (lo + r.snd - 1)
      match __x with
      | some smaller => if smaller = true then pure (ForInStep.done (none, r.snd)) else pure (ForInStep.yield (none, r.snd + 1))
      | _ => pure (ForInStep.done (some none, r.snd))
def tailL (lo n nrem : Nat) : StateT SortSt Sem (Option Nat) := do
  reverseSlice' lo (lo + n)
  let r ← ascL lo n nrem
  match r.fst with
  | some x => pure x
  | none => pure (some r.snd)
def dscL (lo n nrem : Nat) : StateT SortSt Sem DescSt :=
  forIn [n:nrem] ((none, n, 0) : DescSt) fun _ r => do
    let __x ← ltAt' (lo + r.snd.fst) (lo + r.snd.fst - 1)
    match __x with
    | some smaller =>
      if smaller = true then
        if r.snd.snd > 0 then do
          reverseSlice' (lo + r.snd.fst - (r.snd.snd + 1)) (lo + r.snd.fst)
          pure (ForInStep.yield (none, r.snd.fst + 1, 0))
        else pure (ForInStep.yield (none, r.snd.fst + 1, 0))
      else do
        let __x ← ltAt' (lo + r.snd.fst - 1) (lo + r.snd.fst)
        match __x with
        | some larger =>
          if larger = true then pure (ForInStep.done (none, r.snd.fst, r.snd.snd))
          else pure (ForInStep.yield (none, r.snd.fst + 1, r.snd.snd + 1))
        | _ => pure (ForInStep.done (some none, r.snd.fst, r.snd.snd))
    | _ => pure (ForInStep.done (some none, r.snd.fst, r.snd.snd))
def dscP (lo n nrem : Nat) : StateT SortSt Sem (Option Nat) := do
  liftM (rule "list.sort.descending-run")
  let r ← dscL lo (n + 1) nrem
  match r.fst with
  | some x => pure x
  | none =>
    if r.snd.snd > 0 then do
      reverseSlice' (lo + r.snd.fst - (r.snd.snd + 1)) (lo + r.snd.fst)
      tailL lo r.snd.fst nrem
    else tailL lo r.snd.fst nrem
theorem count_eq (lo nrem : Nat) : countRun' lo nrem = (do
    let r ← ascL lo 1 nrem
    match r.fst with
    | some x => pure x
    | none =>
      if (r.snd == nrem) = true then pure (some r.snd)
      else if r.snd > 1 then do
        let __x ← ltAt' lo (lo + r.snd - 1)
        match __x with
        | some rose => if rose = true then pure (some r.snd) else do
            reverseSlice' lo (lo + r.snd)
            dscP lo r.snd nrem
        | _ => pure none
      else dscP lo r.snd nrem) := by
  rw [countRun'_eq]
  unfold dscP tailL dscL ascL
  refine bind_congr (m := StateT SortSt Sem) fun r => ?_
  obtain ⟨r, n⟩ := r
  cases r with
  | some r => rfl
  | none =>
    dsimp only
    split
    · rfl
    · split
      · congr 1
        funext x
        cases x with
        | none => rfl
        | some rose =>
          dsimp only
          split
          · rfl
          · congr 1
            funext _r
            congr 1; funext _u; congr 1; congr 1; funext s2; obtain ⟨r2, n2, q2⟩ := s2
            cases r2 with
            | some r2 => rfl
            | none =>
              dsimp only
              split
              · congr 1; funext _v; congr 1; funext _w; congr 1; funext s3; obtain ⟨r3, n3⟩ := s3; cases r3 <;> rfl
              · congr 1; funext _w; congr 1; funext s3; obtain ⟨r3, n3⟩ := s3; cases r3 <;> rfl
      · congr 1; funext _u; congr 1; congr 1; funext s2; obtain ⟨r2, n2, q2⟩ := s2
        cases r2 with
        | some r2 => rfl
        | none =>
          dsimp only
          split
          · congr 1; funext _v; congr 1; funext _w; congr 1; funext s3; obtain ⟨r3, n3⟩ := s3; cases r3 <;> rfl
          · congr 1; funext _w; congr 1; funext s3; obtain ⟨r3, n3⟩ := s3; cases r3 <;> rfl
section
variable {prog : Program} {w : World} {A : Around} {E : Value → Shared → Prop} {s : Shared} {a₀ : Array Keyed}
theorem wp_tail {st : SortSt} {lo n nrem : Nat} {Q : Option Nat → SortSt → Prop} (h0 : IntKeys a₀) (hn : lo + nrem ≤ a₀.size) (h1 : 1 ≤ n) (hnn : n ≤ nrem) (hB : TB a₀ st) (hd : Dsc (arrOf st) lo (lo + n))
    (h : ∀ m st', TB a₀ st' → Kept lo st st' → 1 ≤ m → m ≤ nrem → Seg (arrOf st') lo (lo + m) → Q (some m) st') : wpS (model prog w) A E s (tailL lo n nrem) Q st := by
  unfold tailL
  have hsz : lo + n ≤ (arrOf st).size := by rw [hB.size]; omega
  refine wpS_bind (wpS_reverse ?_)
  have hB' : TB a₀ (setArr st (mirror (arrOf st) lo (lo + n) ((lo + n - lo) / 2))) := hB.setArr (mirror_perm _ _ _ _)
  refine wpS_bind (wp_asc h0 hn h1 hnn hB' (hd.turn hsz) fun m hm1 hm2 hsm _ => wpS_pure (h m _ hB' ⟨rfl, fun k hk => mirror_low hsz hk⟩ (by omega) hm2 hsm))
theorem wp_dsc {st : SortSt} {lo n nrem : Nat} {Q : DescSt → SortSt → Prop} (h0 : IntKeys a₀) (hn : lo + nrem ≤ a₀.size) (h1 : 1 ≤ n) (hnn : n ≤ nrem) (hB : TB a₀ st) (hd : Dsc (arrOf st) lo (lo + n))
    (h : ∀ m neq st', TB a₀ st' → Kept lo st st' → n ≤ m → m ≤ nrem → Dsc (arrOf st') lo (lo + m) → neq + 1 ≤ m → (∀ i, lo + m - (neq + 1) ≤ i → i < lo + m → K (arrOf st') i = K (arrOf st') (lo + m - 1)) → Q (none, m, neq) st') :
    wpS (model prog w) A E s (dscL lo n nrem) Q st := by
  unfold dscL
  refine wpS_forRange (I := fun x c st' => ∃ neq, c = (none, x, neq) ∧ TB a₀ st' ∧ Kept lo st st' ∧ Dsc (arrOf st') lo (lo + x) ∧ neq + 1 ≤ x ∧
      (∀ i, lo + x - (neq + 1) ≤ i → i < lo + x → K (arrOf st') i = K (arrOf st') (lo + x - 1))) ?step ?fin ⟨0, rfl, hB, Kept.refl _ _, hd, by omega, fun i h1 h2 => by congr 1; omega⟩
  case fin =>
    rintro c st' ⟨neq, rfl, hB', hk, hs', hq, he⟩
    rw [show max n nrem = nrem by omega] at hs' hq he ⊢
    exact h nrem neq st' hB' hk hnn (Nat.le_refl _) hs' hq he
  case step =>
    rintro x c st' hax hxn ⟨neq, rfl, hB', hk, hs', hq, he⟩
    dsimp only
    have hsz : lo + x ≤ (arrOf st').size := by rw [hB'.size]; omega
    refine wpS_bind (wp_ltAt hB' h0 (by omega) (by omega) ?_)
    by_cases hless : K (arrOf st') (lo + x) < K (arrOf st') (lo + x - 1)
    · simp only [hless, decide_true, if_true]
      have d1 : Dsc (arrOf st') lo (lo + (x + 1)) := hs'.more (by omega) (Int.le_of_lt hless)
      by_cases hneq : neq > 0
      · rw [if_pos hneq]
        have eq := K_mirror_equal hsz he
        exact wpS_bind (wpS_reverse (wpS_pure ⟨0, rfl, hB'.setArr (mirror_perm _ _ _ _), hk.trans (Kept.arr fun k _ => eq k), d1.congr fun k _ _ => eq k, by omega, fun i h1 h2 => by congr 1; omega⟩))
      · rw [if_neg hneq]
        exact wpS_pure ⟨0, rfl, hB', hk, d1, by omega, fun i h1 h2 => by congr 1; omega⟩
    · simp only [hless, decide_false, Bool.false_eq_true, if_false]
      refine wpS_bind (wp_ltAt hB' h0 (by omega) (by omega) ?_)
      by_cases hlarger : K (arrOf st') (lo + x - 1) < K (arrOf st') (lo + x)
      · simp only [hlarger, decide_true, if_true]
        exact wpS_pure (h x neq st' hB' hk hax (by omega) hs' hq he)
      · simp only [hlarger, decide_false, Bool.false_eq_true, if_false]
        have heqx : K (arrOf st') (lo + x) = K (arrOf st') (lo + x - 1) := by omega
        refine wpS_pure ⟨neq + 1, rfl, hB', hk, hs'.more (by omega) (by omega), by omega, fun i h1 h2 => ?_⟩
        rw [show lo + (x + 1) - 1 = lo + x by omega]
        by_cases hix : i = lo + x
        · subst hix; rfl
        · rw [heqx]; exact he i (by omega) (by omega)
theorem wp_dscP {st : SortSt} {lo n nrem : Nat} {Q : Option Nat → SortSt → Prop} (h0 : IntKeys a₀) (hn : lo + nrem ≤ a₀.size) (hnn : n + 1 ≤ nrem) (hB : TB a₀ st) (hs : Dsc (arrOf st) lo (lo + (n + 1)))
    (h : ∀ m st', TB a₀ st' → Kept lo st st' → 1 ≤ m → m ≤ nrem → Seg (arrOf st') lo (lo + m) → Q (some m) st') : wpS (model prog w) A E s (dscP lo n nrem) Q st := by
  unfold dscP
  refine wpS_bind (wpS_lift (wpAny_rule ⟨rfl, ?_⟩))
  refine wpS_bind (wp_dsc h0 hn (by omega) hnn hB hs fun m neq st' hB' hk hm1 hm2 hs' hq he => ?_)
  dsimp only
  have hsz : lo + m ≤ (arrOf st').size := by rw [hB'.size]; omega
  by_cases hneq : neq > 0
  · rw [if_pos hneq]
    have eq := K_mirror_equal hsz he
    exact wpS_bind (wpS_reverse (wp_tail h0 hn (by omega) hm2 (hB'.setArr (mirror_perm _ _ _ _)) (hs'.congr fun k _ _ => eq k) fun m' st2 t2 k2 => h m' st2 t2 ((hk.trans (Kept.arr fun k _ => eq k)).trans k2)))
  · rw [if_neg hneq]
    exact wp_tail h0 hn (by omega) hm2 hB' hs' fun m' st2 t2 k2 => h m' st2 t2 (hk.trans k2)
theorem wp_count {st : SortSt} {lo nrem : Nat} {Q : Option Nat → SortSt → Prop} (h0 : IntKeys a₀) (hn : lo + nrem ≤ a₀.size) (h1 : 1 ≤ nrem) (hB : TB a₀ st)
    (h : ∀ m st', TB a₀ st' → Kept lo st st' → 1 ≤ m → m ≤ nrem → Seg (arrOf st') lo (lo + m) → Q (some m) st') : wpS (model prog w) A E s (countRun' lo nrem) Q st := by
  rw [count_eq]
  refine wpS_bind (wp_asc h0 hn (Nat.le_refl 1) h1 hB (Seg.one _ _) fun n hn1 hn2 hsn hor => ?_)
  dsimp only
  by_cases hnn : n = nrem
  · rw [if_pos (by simpa using hnn)]
    exact wpS_pure (h n st hB (Kept.refl _ _) hn1 hn2 hsn)
  · rw [if_neg (by simpa using hnn)]
    have hlt : K (arrOf st) (lo + n) < K (arrOf st) (lo + n - 1) := hor.resolve_left hnn
    by_cases hgt : n > 1
    · rw [if_pos hgt]
      refine wpS_bind (wp_ltAt hB h0 (by omega) (by omega) ?_)
      by_cases hrose : K (arrOf st) lo < K (arrOf st) (lo + n - 1)
      · simp only [hrose, decide_true, if_true]
        exact wpS_pure (h n st hB (Kept.refl _ _) hn1 hn2 hsn)
      · simp only [hrose, decide_false, Bool.false_eq_true, if_false]
        have hsz : lo + n ≤ (arrOf st).size := by rw [hB.size]; omega
        have hall : ∀ k, lo ≤ k → k < lo + n → K (arrOf st) k = K (arrOf st) (lo + n - 1) := by
          intro k hk1 hk
          have a1 := hsn lo k (by omega) hk1 hk
          have a2 := hsn k (lo + n - 1) hk1 (by omega) (by omega)
          omega
        have eq := K_mirror_equal hsz hall
        refine wpS_bind (wpS_reverse (wp_dscP h0 hn (by omega) (hB.setArr (mirror_perm _ _ _ _)) ?_ fun m' st2 t2 k2 => h m' st2 t2 ((Kept.arr fun k _ => eq k).trans k2)))
        have d0 : Dsc (arrOf st) lo (lo + n) := fun i j h1 h2 h3 => by rw [hall i h1 (by omega), hall j (by omega) h3]; exact Int.le_refl _
        exact (d0.more (by omega) (Int.le_of_lt hlt)).congr fun k _ _ => eq k
    · rw [if_neg hgt]
      have hn1' : n = 1 := by omega
      subst hn1'
      refine wp_dscP h0 hn (by omega) hB ?_ h
      have d0 : Dsc (arrOf st) lo (lo + 1) := fun i j h1 h2 h3 => by
        have : i = j := by omega
        subst this
        exact Int.le_refl _
      exact d0.more (by omega) (Int.le_of_lt hlt)
end
end Tim
namespace Tim
open PySem PyProof.Rows
section
variable {prog : Program} {w : World} {A : Around} {E : Value → Shared → Prop} {s : Shared} {a₀ : Array Keyed}
theorem wp_binary {st : SortSt} {lo n ok : Nat} {Q : Bool → SortSt → Prop} (h0 : IntKeys a₀) (hn : lo + n ≤ a₀.size) (hok : ok ≤ n) (h1 : 1 ≤ ok) (hB : TB a₀ st) (hs : Seg (arrOf st) lo (lo + ok))
    (h : ∀ st', TB a₀ st' → Kept lo st st' → Seg (arrOf st') lo (lo + n) → Q true st') : wpS (model prog w) A E s (binarySort' lo n ok) Q st := by
  rw [binarySort'_eq]
  refine wpS_bind (wpS_mono (wpS_forRange (I := fun k c st' => c = (none, ()) ∧ TB a₀ st' ∧ Kept lo st st' ∧ Seg (arrOf st') lo (lo + min k n))
    (Q := fun c st' => c = (none, ()) ∧ TB a₀ st' ∧ Kept lo st st' ∧ Seg (arrOf st') lo (lo + n)) ?step ?fin ?init) ?post)
  case post =>
    rintro c st' ⟨rfl, hB', hk, hs'⟩
    exact wpS_pure (h st' hB' hk hs')
  case init => exact ⟨rfl, hB, Kept.refl _ _, by rw [show min (max ok 1) n = ok by omega]; exact hs⟩
  case fin =>
    rintro c st' ⟨hc, hB', hk, hs'⟩
    refine ⟨hc, hB', hk, ?_⟩
    rwa [show min (max (max ok 1) n) n = n by omega] at hs'
  case step =>
    rintro k c st' hak hkn ⟨rfl, hB', hkp, hs'⟩
    rw [show min k n = k by omega] at hs'
    have hk : lo + k < a₀.size := by omega
    refine wpS_bind (wpS_mono (wpS_forRange (I := fun x c st'' => st'' = st' ∧ ∃ l r, c = (none, l, r) ∧ l ≤ r ∧ r ≤ k ∧ r - l ≤ k - x ∧
        (∀ i, i < l → K (arrOf st') (lo + i) ≤ K (arrOf st') (lo + k)) ∧ (∀ i, r ≤ i → i < k → K (arrOf st') (lo + k) < K (arrOf st') (lo + i)))
      (Q := fun c st'' => st'' = st' ∧ ∃ l r, c = (none, l, r) ∧ l ≤ k ∧
        (∀ i, i < l → K (arrOf st') (lo + i) ≤ K (arrOf st') (lo + k)) ∧ (∀ i, l ≤ i → i < k → K (arrOf st') (lo + k) < K (arrOf st') (lo + i))) ?istep ?ifin ?iinit) ?ipost)
    case iinit => exact ⟨rfl, 0, k, rfl, by omega, by omega, by omega, fun i hi => by omega, fun i h1 h2 => by omega⟩
    case ifin =>
      rintro c st'' ⟨rfl, l, r, rfl, hlr, hrk, hm, hlo, hhi⟩
      have : l = r := by omega
      subst this
      exact ⟨rfl, l, l, rfl, hrk, hlo, hhi⟩
    case istep =>
      rintro x c st'' _ hxk ⟨rfl, l, r, rfl, hlr, hrk, hm, hlo, hhi⟩
      dsimp only
      by_cases hge : l ≥ r
      · rw [if_pos hge]
        have : l = r := by omega
        subst this
        exact wpS_pure ⟨rfl, l, l, rfl, hrk, hlo, hhi⟩
      · rw [if_neg hge]
        refine wpS_bind (wp_ltAt hB' h0 hk (by omega) ?_)
        by_cases hless : K (arrOf st'') (lo + k) < K (arrOf st'') (lo + (l + r) / 2)
        · simp only [hless, decide_true, if_true]
          refine wpS_pure ⟨rfl, l, (l + r) / 2, rfl, by omega, by omega, by omega, hlo, fun i h1 h2 => ?_⟩
          exact Int.lt_of_lt_of_le hless (hs' _ _ (by omega) (by omega) (by omega))
        · simp only [hless, decide_false, Bool.false_eq_true, if_false]
          refine wpS_pure ⟨rfl, (l + r) / 2 + 1, r, rfl, by omega, by omega, by omega, fun i h1 => ?_, hhi⟩
          exact Int.le_trans (hs' (lo + i) (lo + (l + r) / 2) (by omega) (by omega) (by omega)) (Int.not_lt.mp hless)
    case ipost =>
      rintro c st'' ⟨rfl, l, r, rfl, hlk, hlo, hhi⟩
      show wpS _ _ _ _ (do moveDown' (lo + k) (lo + l); pure (ForInStep.yield (none, ()))) _ _
      rw [moveDown'_eq]
      have hks : lo + k < (arrOf st'').size := by rw [hB'.size]; exact hk
      have ed : lo + k - (lo + l) = k - l := by omega
      rw [ed]
      have es : lo + k - (k - l) = lo + l := by omega
      refine wpS_bind (wpS_modify (wpS_pure ⟨rfl, hB'.setArr (bubble_perm _ _ _), hkp.trans (Kept.arr fun j hj => ?_), ?_⟩))
      · rw [K_bubble hks (by omega), es, if_neg (by omega), if_neg (by omega)]
      · rw [show min (k + 1) n = k + 1 by omega]
        intro i j hi hij hj
        show K (bubble (arrOf st'') (lo + k) (k - l)) i ≤ K (bubble (arrOf st'') (lo + k) (k - l)) j
        rw [K_bubble hks (by omega), K_bubble hks (by omega), es]
        have low : ∀ i, lo ≤ i → i < lo + l → K (arrOf st'') i ≤ K (arrOf st'') (lo + k) := fun i h1 h2 => by
          have := hlo (i - lo) (by omega)
          rwa [show lo + (i - lo) = i by omega] at this
        have high : ∀ i, lo + l ≤ i → i < lo + k → K (arrOf st'') (lo + k) < K (arrOf st'') i := fun i h1 h2 => by
          have := hhi (i - lo) (by omega) (by omega)
          rwa [show lo + (i - lo) = i by omega] at this
        repeat' split
        all_goals first
          | (exfalso; omega)
          | exact Int.le_refl _
          | exact low _ (by omega) (by omega)
          | exact Int.le_of_lt (high _ (by omega) (by omega))
          | exact hs' _ _ (by omega) (by omega) (by omega)
end
end Tim
namespace Tim
open PySem PyProof.Rows
def gallop' : Bool → Keyed → Array Keyed → Nat → Nat → Nat → StateT SortSt Sem (Option Nat) := sortPriv% PySem.Builtin.gallop
def keyN (p : Keyed) : Int := numOf p.1
def bey (left : Bool) (key : Int) (arr : Array Keyed) (i : Nat) : Bool := if left then decide (K arr i < key) else !decide (key < K arr i)
section
variable {prog : Program} {w : World} {A : Around} {E : Value → Shared → Prop} {s : Shared}
theorem wp_lt {st : SortSt} {a b : Int} {t u : Tok} {p q : Value} {Q : Option Bool → SortSt → Prop} (hk : kindOf st = oneType') (h : Q (some (decide (a < b))) st) : wpS (model prog w) A E s (lt' (.int a t, p) (.int b u, q)) Q st := by
  rw [lt'_eq]
  refine wpS_bind (wpS_get ?_)
  rw [hk, keyLt'_oneType]
  refine wpS_bind (wpS_lift (wpAny_attempt (oneLt_int ⟨rfl, ?_⟩)))
  exact wpS_pure h
theorem wp_elem {st : SortSt} {arr : Array Keyed} {i : Nat} {x : Keyed} {Q : Keyed → SortSt → Prop} (e : arr[i]? = some x) (h : Q x st) : wpS (model prog w) A E s (elem' arr i) Q st := by
  rw [elem'_eq, e]
  exact wpS_pure h
theorem wp_gallop {st : SortSt} {left : Bool} {c : Int} {t : Tok} {kp : Value} {arr : Array Keyed} {base n hint : Nat} {Q : Option Nat → SortSt → Prop} (hk : kindOf st = oneType') (hI : IntKeys arr) (hsz : base + n ≤ arr.size) (hh : hint < n)
    (hs : Seg arr base (base + n))
    (h : ∀ k, k ≤ n → (∀ i, i < k → bey left c arr (base + i) = true) → (∀ i, k ≤ i → i < n → bey left c arr (base + i) = false) → Q (some k) st) :
    wpS (model prog w) A E s (gallop' left (.int c t, kp) arr base n hint) Q st := by
  have mono : ∀ i j, i ≤ j → j < n → bey left c arr (base + j) = true → bey left c arr (base + i) = true := fun i j hij hj hb => by
    have hK := hs (base + i) (base + j) (by omega) (by omega) (by omega)
    unfold bey at hb ⊢
    cases left with
    | true =>
      have : K arr (base + j) < c := of_decide_eq_true hb
      exact decide_eq_true (by omega)
    | false =>
      have hb : (!decide (c < K arr (base + j))) = true := hb
      show (!decide (c < K arr (base + i))) = true
      rw [Bool.not_eq_true', decide_eq_false_iff_not] at hb ⊢
      omega
  have monoF : ∀ i j, i ≤ j → j < n → bey left c arr (base + i) = false → bey left c arr (base + j) = false := fun i j hij hj hb => by
    cases e : bey left c arr (base + j) with
    | false => rfl
    | true => rw [mono i j hij hj e] at hb; cases hb
  have ask : ∀ {β : Type} (i : Nat) {Q' : β → SortSt → Prop} {f : Option Bool → StateT SortSt Sem β}, i < n → wpS (model prog w) A E s (f (some (bey left c arr (base + i)))) Q' st → wpS (model prog w) A E s ((do
      let x ← elem' arr (base + i)
      if left = true then lt' x (.int c t, kp) else do
        let __x ← lt' (.int c t, kp) x
        pure (__x.map (!·)) : StateT SortSt Sem (Option Bool)) >>= f) Q' st := fun {β} i {Q' f} hi hf => by
    obtain ⟨t', q, e⟩ := at_int hI (i := base + i) (by omega)
    refine wpS_bind (wpS_bind (wp_elem e ?_))
    unfold bey at hf
    cases left with
    | true => exact wp_lt hk hf
    | false => exact wpS_bind (wp_lt hk (wpS_pure hf))
  refine ask hint hh ?_
  dsimp only
  cases e0 : bey left c arr (base + hint) with
  | true =>
    rw [if_pos rfl]
    refine wpS_bind (wpS_mono (wpS_forRange (I := fun x c' st' => st' = st ∧ ∃ g1 g2, c' = (none, g1, g2) ∧ x + 1 ≤ g2 ∧ g1 < g2 ∧ hint + g1 < n ∧ bey left c arr (base + (hint + g1)) = true)
      (Q := fun c' st' => st' = st ∧ ∃ g1 g2, c' = (none, g1, g2) ∧ g1 < g2 ∧ hint + g1 < n ∧ bey left c arr (base + (hint + g1)) = true ∧ (g2 ≥ n - hint ∨ (hint + g2 < n ∧ bey left c arr (base + (hint + g2)) = false))) ?_ ?_ ⟨rfl, 0, 1, rfl, by omega, by omega, by omega, e0⟩) ?_)
    · rintro x c' st' _ hx ⟨rfl, g1, g2, rfl, h1, h2, h3, h4⟩
      dsimp only
      by_cases hge : g2 ≥ n - hint
      · rw [if_pos hge]
        exact wpS_pure ⟨rfl, g1, g2, rfl, h2, h3, h4, .inl hge⟩
      · rw [if_neg hge]
        refine ask (hint + g2) (by omega) ?_
        dsimp only
        cases e : bey left c arr (base + (hint + g2)) with
        | true =>
          rw [if_neg (by decide)]
          exact wpS_pure ⟨rfl, _, _, rfl, by omega, by omega, by omega, e⟩
        | false =>
          rw [if_pos (by decide)]
          exact wpS_pure ⟨rfl, g1, g2, rfl, h2, h3, h4, .inr ⟨by omega, e⟩⟩
    · rintro c' st' ⟨rfl, g1, g2, rfl, h1, h2, h3, h4⟩
      exact ⟨rfl, g1, g2, rfl, h2, h3, h4, .inl (by omega)⟩
    · rintro c' st' ⟨rfl, g1, g2, rfl, h2, h3, h4, h5⟩
      dsimp only
      have hLo : ∀ i, i < hint + g1 + 1 → bey left c arr (base + i) = true := fun i hi => mono i (hint + g1) (by omega) h3 h4
      have hHi : ∀ i, hint + min g2 (n - hint) ≤ i → i < n → bey left c arr (base + i) = false := fun i hi hn => by
        rcases h5 with h5 | ⟨h5, h6⟩
        · exfalso
          omega
        · exact monoF (hint + g2) i (by omega) hn h6
      have hLH : hint + g1 + 1 ≤ hint + min g2 (n - hint) := by omega
      have hHn : hint + min g2 (n - hint) ≤ n := by omega
      refine wpS_bind (wpS_mono (wpS_forRange (I := fun x c2 st2 => st2 = st' ∧ ∃ l r, c2 = (none, l, r) ∧ l ≤ r ∧ r ≤ n ∧ r - l ≤ n - x ∧ (∀ i, i < l → bey left c arr (base + i) = true) ∧ (∀ i, r ≤ i → i < n → bey left c arr (base + i) = false))
        (Q := fun c2 st2 => st2 = st' ∧ ∃ r, c2 = (none, r, r) ∧ r ≤ n ∧ (∀ i, i < r → bey left c arr (base + i) = true) ∧ (∀ i, r ≤ i → i < n → bey left c arr (base + i) = false)) ?_ ?_ ⟨rfl, _, _, rfl, hLH, hHn, by omega, hLo, hHi⟩) ?_)
      · rintro x c' st' _ hx ⟨rfl, l, r, rfl, hlr, hrn, hm, h1, h2⟩
        dsimp only
        by_cases hge : l ≥ r
        · rw [if_pos hge]
          have : l = r := by omega
          subst this
          exact wpS_pure ⟨rfl, l, rfl, hrn, h1, h2⟩
        · rw [if_neg hge]
          refine ask (l + (r - l) / 2) (by omega) ?_
          dsimp only
          cases e : bey left c arr (base + (l + (r - l) / 2)) with
          | true =>
            rw [if_pos rfl]
            exact wpS_pure ⟨rfl, _, _, rfl, by omega, hrn, by omega, fun i hi => mono i _ (by omega) (by omega) e, h2⟩
          | false =>
            rw [if_neg Bool.false_ne_true]
            exact wpS_pure ⟨rfl, _, _, rfl, by omega, by omega, by omega, h1, fun i hi hn => monoF _ i hi hn e⟩
      · rintro c' st' ⟨rfl, l, r, rfl, hlr, hrn, hm, h1, h2⟩
        have : l = r := by omega
        subst this
        exact ⟨rfl, l, rfl, hrn, h1, h2⟩
      · rintro c' st' ⟨rfl, r, rfl, hrn, h1, h2⟩
        exact wpS_pure (h r hrn h1 h2)
  | false =>
    rw [if_neg Bool.false_ne_true]
    refine wpS_bind (wpS_mono (wpS_forRange (I := fun x c' st' => st' = st ∧ ∃ g1 g2, c' = (none, g1, g2) ∧ x + 1 ≤ g2 ∧ g1 < g2 ∧ g1 ≤ hint ∧ bey left c arr (base + (hint - g1)) = false)
      (Q := fun c' st' => st' = st ∧ ∃ g1 g2, c' = (none, g1, g2) ∧ g1 < g2 ∧ g1 ≤ hint ∧ bey left c arr (base + (hint - g1)) = false ∧ (g2 ≥ hint + 1 ∨ (g2 ≤ hint ∧ bey left c arr (base + (hint - g2)) = true))) ?_ ?_ ⟨rfl, 0, 1, rfl, by omega, by omega, by omega, e0⟩) ?_)
    · rintro x c' st' _ hx ⟨rfl, g1, g2, rfl, h1, h2, h3, h4⟩
      dsimp only
      by_cases hge : g2 ≥ hint + 1
      · rw [if_pos hge]
        exact wpS_pure ⟨rfl, g1, g2, rfl, h2, h3, h4, .inl hge⟩
      · rw [if_neg hge]
        refine ask (hint - g2) (by omega) ?_
        dsimp only
        cases e : bey left c arr (base + (hint - g2)) with
        | true =>
          rw [if_pos rfl]
          exact wpS_pure ⟨rfl, g1, g2, rfl, h2, h3, h4, .inr ⟨by omega, e⟩⟩
        | false =>
          rw [if_neg Bool.false_ne_true]
          exact wpS_pure ⟨rfl, _, _, rfl, by omega, by omega, by omega, e⟩
    · rintro c' st' ⟨rfl, g1, g2, rfl, h1, h2, h3, h4⟩
      exact ⟨rfl, g1, g2, rfl, h2, h3, h4, .inl (by omega)⟩
    · rintro c' st' ⟨rfl, g1, g2, rfl, h2, h3, h4, h5⟩
      dsimp only
      have hLo : ∀ i, i < hint + 1 - min g2 (hint + 1) → bey left c arr (base + i) = true := fun i hi => by
        rcases h5 with h5 | ⟨h5, h6⟩
        · exfalso
          omega
        · exact mono i (hint - g2) (by omega) (by omega) h6
      have hHi : ∀ i, hint - g1 ≤ i → i < n → bey left c arr (base + i) = false := fun i hi hn => monoF (hint - g1) i hi hn h4
      have hLH : hint + 1 - min g2 (hint + 1) ≤ hint - g1 := by omega
      have hHn : hint - g1 ≤ n := by omega
      refine wpS_bind (wpS_mono (wpS_forRange (I := fun x c2 st2 => st2 = st' ∧ ∃ l r, c2 = (none, l, r) ∧ l ≤ r ∧ r ≤ n ∧ r - l ≤ n - x ∧ (∀ i, i < l → bey left c arr (base + i) = true) ∧ (∀ i, r ≤ i → i < n → bey left c arr (base + i) = false))
        (Q := fun c2 st2 => st2 = st' ∧ ∃ r, c2 = (none, r, r) ∧ r ≤ n ∧ (∀ i, i < r → bey left c arr (base + i) = true) ∧ (∀ i, r ≤ i → i < n → bey left c arr (base + i) = false)) ?_ ?_ ⟨rfl, _, _, rfl, hLH, hHn, by omega, hLo, hHi⟩) ?_)
      · rintro x c' st' _ hx ⟨rfl, l, r, rfl, hlr, hrn, hm, h1, h2⟩
        dsimp only
        by_cases hge : l ≥ r
        · rw [if_pos hge]
          have : l = r := by omega
          subst this
          exact wpS_pure ⟨rfl, l, rfl, hrn, h1, h2⟩
        · rw [if_neg hge]
          refine ask (l + (r - l) / 2) (by omega) ?_
          dsimp only
          cases e : bey left c arr (base + (l + (r - l) / 2)) with
          | true =>
            rw [if_pos rfl]
            exact wpS_pure ⟨rfl, _, _, rfl, by omega, hrn, by omega, fun i hi => mono i _ (by omega) (by omega) e, h2⟩
          | false =>
            rw [if_neg Bool.false_ne_true]
            exact wpS_pure ⟨rfl, _, _, rfl, by omega, by omega, by omega, h1, fun i hi hn => monoF _ i hi hn e⟩
      · rintro c' st' ⟨rfl, l, r, rfl, hlr, hrn, hm, h1, h2⟩
        have : l = r := by omega
        subst this
        exact ⟨rfl, l, rfl, hrn, h1, h2⟩
      · rintro c' st' ⟨rfl, r, rfl, hrn, h1, h2⟩
        exact wpS_pure (h r hrn h1 h2)
end
end Tim
namespace Tim
open PySem PyProof.Rows
def Srt (l : List Keyed) : Prop := l.Pairwise fun x y => keyN x ≤ keyN y
structure Out (o ra rb all : List Keyed) : Prop where
  perm : (o ++ ra ++ rb).Perm all
  srt : Srt o
  sa : Srt ra
  sb : Srt rb
  low : ∀ x ∈ o, ∀ y, y ∈ ra ∨ y ∈ rb → keyN x ≤ keyN y
theorem Srt.split {l : List Keyed} (h : Srt l) (k : Nat) : Srt (l.take k) ∧ Srt (l.drop k) ∧ ∀ x ∈ l.take k, ∀ y ∈ l.drop k, keyN x ≤ keyN y := by
  have e : l.take k ++ l.drop k = l := List.take_append_drop k l
  unfold Srt at h ⊢
  rw [← e, List.pairwise_append] at h
  exact ⟨h.1, h.2.1, h.2.2⟩
theorem Out.takeA {o ra rb all : List Keyed} (h : Out o ra rb all) (k : Nat) (hk : ∀ x ∈ ra.take k, ∀ y ∈ rb, keyN x ≤ keyN y) : Out (o ++ ra.take k) (ra.drop k) rb all := by
  obtain ⟨s1, s2, s3⟩ := h.sa.split k
  refine ⟨?_, ?_, s2, h.sb, fun x hx y hy => ?_⟩
  · rw [List.append_assoc o, List.take_append_drop]
    exact h.perm
  · unfold Srt
    rw [List.pairwise_append]
    exact ⟨h.srt, s1, fun x hx y hy => h.low x hx y (.inl (List.mem_of_mem_take hy))⟩
  · rcases List.mem_append.mp hx with k1 | k1
    · exact h.low x k1 y (hy.imp List.mem_of_mem_drop id)
    · rcases hy with hy | hy
      · exact s3 x k1 y hy
      · exact hk x k1 y hy
theorem Out.takeB {o ra rb all : List Keyed} (h : Out o ra rb all) (k : Nat) (hk : ∀ x ∈ rb.take k, ∀ y ∈ ra, keyN x ≤ keyN y) : Out (o ++ rb.take k) ra (rb.drop k) all := by
  obtain ⟨s1, s2, s3⟩ := h.sb.split k
  refine ⟨?_, ?_, h.sa, s2, fun x hx y hy => ?_⟩
  · refine List.Perm.trans ?_ h.perm
    conv => rhs; rw [← List.take_append_drop k rb]
    rw [List.append_assoc, List.append_assoc, List.append_assoc]
    refine List.Perm.append_left o ?_
    rw [← List.append_assoc, ← List.append_assoc]
    exact List.Perm.append_right _ List.perm_append_comm
  · unfold Srt
    rw [List.pairwise_append]
    exact ⟨h.srt, s1, fun x hx y hy => h.low x hx y (.inr (List.mem_of_mem_take hy))⟩
  · rcases List.mem_append.mp hx with k1 | k1
    · exact h.low x k1 y (hy.imp id List.mem_of_mem_drop)
    · rcases hy with hy | hy
      · exact hk x k1 y hy
      · exact s3 x k1 y hy
theorem Out.done {o ra rb all : List Keyed} (h : Out o ra rb all) (he : ra = [] ∨ rb = []) : (o ++ ra ++ rb).Perm all ∧ Srt (o ++ ra ++ rb) := by
  refine ⟨h.perm, ?_⟩
  unfold Srt
  rcases he with rfl | rfl
  · rw [List.append_nil, List.pairwise_append]
    exact ⟨h.srt, h.sb, fun x hx y hy => h.low x hx y (.inr hy)⟩
  · rw [List.append_nil, List.pairwise_append]
    exact ⟨h.srt, h.sa, fun x hx y hy => h.low x hx y (.inl hy)⟩
theorem Out.last {o ra rb all : List Keyed} (h : Out o ra rb all) (he : ∀ y ∈ rb, ∀ x ∈ ra, keyN y ≤ keyN x) : (o ++ rb ++ ra).Perm all ∧ Srt (o ++ rb ++ ra) := by
  refine ⟨?_, ?_⟩
  · refine List.Perm.trans ?_ h.perm
    rw [List.append_assoc, List.append_assoc]
    exact List.Perm.append_left o List.perm_append_comm
  · unfold Srt
    rw [List.pairwise_append, List.pairwise_append]
    refine ⟨⟨h.srt, h.sb, fun x hx y hy => h.low x hx y (.inr hy)⟩, h.sa, fun x hx y hy => ?_⟩
    rcases List.mem_append.mp hx with k | k
    · exact h.low x k y (.inl hy)
    · exact he x k y hy
structure Lk (st st' : SortSt) : Prop where
  kind : kindOf st' = kindOf st
  arr : arrOf st' = arrOf st
  pend : pendingOf st' = pendingOf st
  failed : failedOf st' = failedOf st
theorem Lk.refl (st : SortSt) : Lk st st := ⟨rfl, rfl, rfl, rfl⟩
theorem Lk.trans {a b c : SortSt} (h : Lk a b) (g : Lk b c) : Lk a c := ⟨g.kind.trans h.kind, g.arr.trans h.arr, g.pend.trans h.pend, g.failed.trans h.failed⟩
def setG' : Nat → StateT SortSt Sem Unit := sortPriv% PySem.Builtin.setMinGallop
theorem setG'_eq (g : Nat) : setG' g = modify fun s => SortSt.mk' (kindOf s) (arrOf s) (pendingOf s) g (failedOf s) := rfl
def mergeLo' : Array Keyed → Array Keyed → StateT SortSt Sem (Array Keyed) := sortPriv% PySem.Builtin.mergeLo
end Tim
namespace Tim
open PySem PyProof.Rows
theorem drop_cons {a : Array Keyed} {i : Nat} {x : Keyed} (e : a[i]? = some x) : a.toList.drop i = x :: a.toList.drop (i + 1) := by
  have e' : a.toList[i]? = some x := by rw [Array.getElem?_toList]; exact e
  obtain ⟨h, rfl⟩ := List.getElem?_eq_some_iff.mp e'
  exact List.drop_eq_getElem_cons h
theorem K_of {a : Array Keyed} {i : Nat} {x : Keyed} (e : a[i]? = some x) : K a i = keyN x := by
  unfold K
  rw [e]
  rfl
theorem mem_drop {a : Array Keyed} {i : Nat} {x : Keyed} (h : x ∈ a.toList.drop i) : ∃ j, i ≤ j ∧ j < a.size ∧ keyN x = K a j := by
  obtain ⟨k, hk, e⟩ := List.getElem_of_mem h
  rw [List.length_drop] at hk
  have hl : a.toList.length = a.size := Array.length_toList
  refine ⟨i + k, by omega, by omega, ?_⟩
  refine (K_of ?_).symm
  rw [← Array.getElem?_toList, ← e, List.getElem_drop]
  exact List.getElem?_eq_getElem (by omega)
theorem mem_take {a : Array Keyed} {i : Nat} {x : Keyed} (h : x ∈ a.toList.take i) : ∃ j, j < i ∧ j < a.size ∧ keyN x = K a j := by
  obtain ⟨k, hk, e⟩ := List.getElem_of_mem h
  rw [List.length_take] at hk
  have hl : a.toList.length = a.size := Array.length_toList
  refine ⟨k, by omega, by omega, ?_⟩
  refine (K_of ?_).symm
  rw [← Array.getElem?_toList, ← e, List.getElem_take]
  exact List.getElem?_eq_getElem (by omega)
theorem mem_mid {a : Array Keyed} {i k : Nat} {x : Keyed} (h : x ∈ (a.toList.drop i).take k) : ∃ j, i ≤ j ∧ j < i + k ∧ j < a.size ∧ keyN x = K a j := by
  obtain ⟨m, hm, e⟩ := List.getElem_of_mem h
  rw [List.length_take, List.length_drop] at hm
  have hl : a.toList.length = a.size := Array.length_toList
  refine ⟨i + m, by omega, by omega, by omega, ?_⟩
  refine (K_of ?_).symm
  rw [← Array.getElem?_toList, ← e, List.getElem_take, List.getElem_drop]
  exact List.getElem?_eq_getElem (by omega)
theorem srt_of {a : Array Keyed} (h : Seg a 0 a.size) : Srt a.toList := by
  unfold Srt
  rw [List.pairwise_iff_getElem]
  intro i j hi hj hij
  have hl : a.toList.length = a.size := Array.length_toList
  have e1 : a[i]? = some a.toList[i] := by rw [← Array.getElem?_toList]; exact List.getElem?_eq_getElem hi
  have e2 : a[j]? = some a.toList[j] := by rw [← Array.getElem?_toList]; exact List.getElem?_eq_getElem hj
  rw [← K_of e1, ← K_of e2]
  exact h i j (by omega) (by omega) (by omega)
theorem ext_list (a : Array Keyed) (i j : Nat) : (a.extract i j).toList = (a.toList.drop i).take (j - i) := by
  rw [Array.toList_extract, List.extract_eq_take_drop]
def Inv (a b out : Array Keyed) (ia ib : Nat) : Prop := Out out.toList (a.toList.drop ia) (b.toList.drop ib) (a.toList ++ b.toList)
def Good (a b r : Array Keyed) : Prop := r.toList.Perm (a.toList ++ b.toList) ∧ Srt r.toList
section
variable {a b out : Array Keyed} {ia ib : Nat}
theorem Inv.start (ha : Seg a 0 a.size) (hb : Seg b 0 b.size) : Inv a b #[] 0 0 := ⟨List.Perm.refl _, List.Pairwise.nil, srt_of ha, srt_of hb, fun x hx => nomatch hx⟩
theorem Inv.as (h : Inv a b out ia ib) (hb : Seg b 0 b.size) (k : Nat) (hk : ∀ j, ia ≤ j → j < ia + k → K a j ≤ K b ib) : Inv a b (out ++ a.extract ia (ia + k)) (ia + k) ib := by
  have z := Out.takeA h k fun x hx y hy => by
    obtain ⟨j, h1, h2, h3, e⟩ := mem_mid hx
    obtain ⟨m, g1, g2, e2⟩ := mem_drop hy
    rw [e, e2]
    exact Int.le_trans (hk j h1 h2) (hb ib m (by omega) g1 g2)
  unfold Inv
  rw [Array.toList_append, ext_list, show ia + k - ia = k by omega, ← List.drop_drop]
  exact z
theorem Inv.bs (h : Inv a b out ia ib) (ha : Seg a 0 a.size) (k : Nat) (hk : ∀ j, ib ≤ j → j < ib + k → K b j ≤ K a ia) : Inv a b (out ++ b.extract ib (ib + k)) ia (ib + k) := by
  have z := Out.takeB h k fun x hx y hy => by
    obtain ⟨j, h1, h2, h3, e⟩ := mem_mid hx
    obtain ⟨m, g1, g2, e2⟩ := mem_drop hy
    rw [e, e2]
    exact Int.le_trans (hk j h1 h2) (ha ia m (by omega) g1 g2)
  unfold Inv
  rw [Array.toList_append, ext_list, show ib + k - ib = k by omega, ← List.drop_drop]
  exact z
theorem ext_one {a : Array Keyed} {i : Nat} {x : Keyed} (e : a[i]? = some x) : out.push x = out ++ a.extract i (i + 1) := by
  apply Array.toList_inj.mp
  rw [Array.toList_push, Array.toList_append, ext_list, drop_cons e, show i + 1 - i = 1 by omega]
  rfl
theorem Inv.a1 (h : Inv a b out ia ib) (hb : Seg b 0 b.size) {x : Keyed} (e : a[ia]? = some x) (hk : K a ia ≤ K b ib) : Inv a b (out.push x) (ia + 1) ib := by
  rw [ext_one e]
  exact h.as hb 1 fun j h1 h2 => by
    have : j = ia := by omega
    subst this
    exact hk
theorem Inv.b1 (h : Inv a b out ia ib) (ha : Seg a 0 a.size) {x : Keyed} (e : b[ib]? = some x) (hk : K b ib ≤ K a ia) : Inv a b (out.push x) ia (ib + 1) := by
  rw [ext_one e]
  exact h.bs ha 1 fun j h1 h2 => by
    have : j = ib := by omega
    subst this
    exact hk
theorem ext_end (a : Array Keyed) (i : Nat) : (a.extract i a.size).toList = a.toList.drop i := by
  rw [ext_list]
  exact List.take_of_length_le (by rw [List.length_drop, Array.length_toList]; omega)
theorem Inv.fin (h : Inv a b out ia ib) (e : ia = a.size ∨ ib = b.size) : Good a b (out ++ a.extract ia a.size ++ b.extract ib b.size) := by
  unfold Good
  rw [Array.toList_append, Array.toList_append, ext_end, ext_end]
  refine Out.done h (e.imp ?_ ?_)
  · intro e; exact List.drop_eq_nil_of_le (by rw [Array.length_toList]; omega)
  · intro e; exact List.drop_eq_nil_of_le (by rw [Array.length_toList]; omega)
theorem Inv.last (h : Inv a b out ia ib) (e : ia + 1 = a.size) (hl : ∀ j, j < b.size → K b j ≤ K a (a.size - 1)) : Good a b (out ++ b.extract ib b.size ++ a.extract ia a.size) := by
  unfold Good
  rw [Array.toList_append, Array.toList_append, ext_end, ext_end]
  refine Out.last h fun y hy x hx => ?_
  obtain ⟨j, h1, h2, e1⟩ := mem_drop hx
  obtain ⟨m, g1, g2, e2⟩ := mem_drop hy
  rw [e1, e2, show j = a.size - 1 by omega]
  exact hl m g2
end
section
variable {prog : Program} {w : World} {A : Around} {E : Value → Shared → Prop} {s : Shared}
theorem wp_ite {α : Type} {c : Prop} [Decidable c] {x y : StateT SortSt Sem α} {Q : α → SortSt → Prop} {st : SortSt} (h1 : c → wpS (model prog w) A E s x Q st) (h2 : ¬ c → wpS (model prog w) A E s y Q st) : wpS (model prog w) A E s (if c then x else y) Q st := by
  by_cases h : c
  · rw [if_pos h]; exact h1 h
  · rw [if_neg h]; exact h2 h
theorem wp_setG {st : SortSt} {g : Nat} {Q : Unit → SortSt → Prop} (h : ∀ st', Lk st st' → Q () st') : wpS (model prog w) A E s (setG' g) Q st := by
  rw [setG'_eq]
  exact wpS_modify (h _ ⟨rfl, rfl, rfl, rfl⟩)
theorem wp_elemI {st : SortSt} {arr : Array Keyed} {i : Nat} {Q : Keyed → SortSt → Prop} (hI : IntKeys arr) (hi : i < arr.size) (h : ∀ t q, arr[i]? = some (.int (K arr i) t, q) → Q (.int (K arr i) t, q) st) : wpS (model prog w) A E s (elem' arr i) Q st := by
  obtain ⟨t, q, e⟩ := at_int hI hi
  exact wp_elem e (h t q e)
theorem Seg.from {a : Array Keyed} {i n : Nat} (h : Seg a 0 a.size) (e : i + n = a.size) : Seg a i (i + n) := fun x y h1 h2 h3 => h x y (by omega) h2 (by omega)
theorem bey_f {c : Int} {arr : Array Keyed} {i : Nat} : bey false c arr i = true ↔ K arr i ≤ c := by
  unfold bey
  rw [if_neg Bool.false_ne_true, Bool.not_eq_true', decide_eq_false_iff_not, Int.not_lt]
theorem bey_t {c : Int} {arr : Array Keyed} {i : Nat} : bey true c arr i = true ↔ K arr i < c := by
  unfold bey
  rw [if_pos rfl, decide_eq_true_iff]
theorem bey_ff {c : Int} {arr : Array Keyed} {i : Nat} : bey false c arr i = false ↔ c < K arr i := by
  unfold bey
  rw [if_neg Bool.false_ne_true, Bool.not_eq_false', decide_eq_true_iff]
theorem bey_tf {c : Int} {arr : Array Keyed} {i : Nat} : bey true c arr i = false ↔ c ≤ K arr i := by
  unfold bey
  rw [if_pos rfl, decide_eq_false_iff_not, Int.not_lt]
def Mid (a b : Array Keyed) (st : SortSt) (n : Nat) (r : Option (Array Keyed)) (o : Array Keyed) (i j : Nat) (st' : SortSt) : Prop :=
  Lk st st' ∧ ((∃ x, r = some x ∧ Good a b x) ∨ (r = none ∧ Inv a b o i j ∧ i + 1 < a.size ∧ j < b.size ∧ n ≤ i + j))
theorem wp_mergeLo {st : SortSt} {a b : Array Keyed} {Q : Array Keyed → SortSt → Prop} (hk : kindOf st = oneType') (IA : IntKeys a) (IB : IntKeys b) (na : 1 ≤ a.size) (nb : 1 ≤ b.size) (sa : Seg a 0 a.size) (sb : Seg b 0 b.size)
    (hf : K b 0 ≤ K a 0) (hl : ∀ j, j < b.size → K b j ≤ K a (a.size - 1))
    (h : ∀ r st', Lk st st' → Good a b r → Q r st') : wpS (model prog w) A E s (mergeLo' a b) Q st := by
  refine wpS_bind (wpS_lift (wpAny_rule ⟨rfl, ?_⟩))
  dsimp only
  refine wpS_bind (wp_elemI IB (by omega) fun t0 p0 e0 => ?_)
  have hI : Inv a b #[(.int (K b 0) t0, p0)] 0 1 := (Inv.start sa sb).b1 sa e0 hf
  by_cases z1 : 1 = b.size
  · rw [if_pos (by simpa using z1)]
    exact wpS_pure (h _ _ (Lk.refl _) (hI.fin (.inr z1)))
  rw [if_neg (by simpa using z1)]
  by_cases z2 : 0 + 1 = a.size
  · rw [if_pos (by simpa using z2)]
    exact wpS_pure (h _ _ (Lk.refl _) (hI.last z2 hl))
  rw [if_neg (by simpa using z2)]
  refine wpS_bind (wpS_get ?_)
  refine wpS_bind (wpS_mono (wpS_forRange (I := fun x c st' => ∃ o i j g, c = (none, o, i, j, g) ∧ Lk st st' ∧ Inv a b o i j ∧ i + 1 < a.size ∧ j < b.size ∧ x ≤ i + j)
    (Q := fun c st' => Lk st st' ∧ ∃ x, c.1 = some x ∧ Good a b x) ?step ?fin ⟨_, _, _, _, rfl, Lk.refl _, hI, by omega, by omega, by omega⟩) ?post)
  case post =>
    rintro c st' ⟨l, x, e, g⟩
    rw [e]
    exact wpS_pure (h _ _ l g)
  case fin =>
    rintro c st' ⟨o, i, j, g, rfl, l, _, h1, h2, h3⟩
    exfalso
    omega
  case step =>
    rintro x c st1 _ hx ⟨out, ia, ib, g, rfl, l1, hI, ha, hb, hn⟩
    dsimp only
    refine wpS_bind (wpS_mono (wpS_forRange (I := fun y c st' => ∃ o i j ac bc, c = (none, o, i, j, ac, bc) ∧ Lk st st' ∧ Inv a b o i j ∧ i + 1 < a.size ∧ j < b.size ∧ ia + ib + y ≤ i + j)
      (Q := fun c st' => ∃ r o i j ac bc, c = (r, o, i, j, ac, bc) ∧ Mid a b st (ia + ib + 1) r o i j st') ?step1 ?fin1 ⟨_, _, _, _, _, rfl, l1, hI, ha, hb, by omega⟩) ?post1)
    case fin1 =>
      rintro c st' ⟨o, i, j, ac, bc, rfl, l, _, h1, h2, h3⟩
      exfalso
      omega
    case step1 =>
      rintro y c st2 _ hy ⟨out, ia2, ib2, ac, bc, rfl, l2, hI, ha2, hb2, hn2⟩
      dsimp only
      refine wpS_bind (wp_elemI IB hb2 fun t1 p1 e1 => ?_)
      refine wpS_bind (wp_elemI IA (by omega) fun t2 p2 e2 => ?_)
      refine wpS_bind (wp_lt (l2.kind.trans hk) ?_)
      dsimp only
      by_cases hw : K b ib2 < K a ia2
      · rw [if_pos (by simpa using hw)]
        refine wpS_bind (wp_elemI IB hb2 fun t3 p3 e3 => ?_)
        have hI2 := hI.b1 sa e3 (Int.le_of_lt hw)
        by_cases z3 : ib2 + 1 = b.size
        · rw [if_pos (by simpa using z3)]
          exact wpS_pure ⟨_, _, _, _, _, _, rfl, l2, .inl ⟨_, rfl, hI2.fin (.inr z3)⟩⟩
        · rw [if_neg (by simpa using z3)]
          split
          · exact wpS_pure ⟨_, _, _, _, _, _, rfl, l2, .inr ⟨rfl, hI2, by omega, by omega, by omega⟩⟩
          · exact wpS_pure ⟨_, _, _, _, _, rfl, l2, hI2, by omega, by omega, by omega⟩
      · rw [if_neg (by simpa using hw)]
        refine wpS_bind (wp_elemI IA (by omega) fun t3 p3 e3 => ?_)
        have hI2 := hI.a1 sb e3 (Int.not_lt.mp hw)
        by_cases z3 : ia2 + 1 + 1 = a.size
        · rw [if_pos (by simpa using z3)]
          exact wpS_pure ⟨_, _, _, _, _, _, rfl, l2, .inl ⟨_, rfl, hI2.last z3 hl⟩⟩
        · rw [if_neg (by simpa using z3)]
          split
          · exact wpS_pure ⟨_, _, _, _, _, _, rfl, l2, .inr ⟨rfl, hI2, by omega, by omega, by omega⟩⟩
          · exact wpS_pure ⟨_, _, _, _, _, rfl, l2, hI2, by omega, by omega, by omega⟩
    case post1 =>
      rintro c st2 ⟨r, out2, ia2, ib2, ac, bc, rfl, l2, ⟨x2, rfl, hg⟩ | ⟨rfl, hI2, ha2, hb2, hn2⟩⟩
      · exact wpS_pure ⟨l2, x2, rfl, hg⟩
      dsimp only
      refine wpS_bind (wpS_lift (wpAny_rule ⟨rfl, ?_⟩))
      refine wpS_bind (wpS_mono (wpS_forRange (I := fun y c st' => ∃ o i j g ac bc, c = (none, o, i, j, g, ac, bc) ∧ Lk st st' ∧ Inv a b o i j ∧ i + 1 < a.size ∧ j < b.size ∧ ia2 + ib2 + y ≤ i + j)
        (Q := fun c st' => ∃ r o i j g ac bc, c = (r, o, i, j, g, ac, bc) ∧ Mid a b st (ia2 + ib2) r o i j st') ?step2 ?fin2 ⟨_, _, _, _, _, _, rfl, l2, hI2, ha2, hb2, by omega⟩) ?post2)
      case fin2 =>
        rintro c st' ⟨o, i, j, g, ac, bc, rfl, l, _, h1, h2, h3⟩
        exfalso
        omega
      case post2 =>
        rintro c st' ⟨r, o, i, j, g, ac, bc, rfl, l, ⟨x2, rfl, hg⟩ | ⟨rfl, hI4, ha4, hb4, hn4⟩⟩
        · exact wpS_pure ⟨l, x2, rfl, hg⟩
        · dsimp only
          exact wpS_bind (wp_setG fun st5 l5 => wpS_pure ⟨_, _, _, _, rfl, l.trans l5, hI4, ha4, hb4, by omega⟩)
      case step2 =>
        rintro y c st3 _ hy ⟨out, ia, ib, g, ac, bc, rfl, l3, hI, ha3, hb3, hn3⟩
        dsimp only
        refine wp_ite (fun _ => ?_) (fun _ => ?_)
        all_goals
          refine wpS_bind (wp_setG fun st2 l2 => ?_)
          have l2 := l3.trans l2
          refine wpS_bind (wp_elemI IB hb3 fun t0 q0 e0 => ?_)
          refine wpS_bind (wp_gallop (l2.kind.trans hk) IA (by omega) (by omega) (Seg.from sa (by omega)) fun k h1 h2 h3 => ?_)
          dsimp only
          by_cases k0 : k > 0
          · rw [if_pos k0]
            have hI2 := hI.as sb k fun j g1 g2 => by
              have := bey_f.mp (h2 (j - ia) (by omega))
              rwa [show ia + (j - ia) = j by omega] at this
            by_cases z1 : ia + k + 1 = a.size
            · rw [if_pos (by simpa using z1)]
              exact wpS_pure ⟨_, _, _, _, _, _, _, rfl, l2, .inl ⟨_, rfl, hI2.last z1 hl⟩⟩
            rw [if_neg (by simpa using z1)]
            by_cases z2 : ia + k = a.size
            · rw [if_pos (by simpa using z2)]
              exact wpS_pure ⟨_, _, _, _, _, _, _, rfl, l2, .inl ⟨_, rfl, hI2.fin (.inl z2)⟩⟩
            rw [if_neg (by simpa using z2)]
            have hle := Int.le_of_lt (bey_ff.mp (h3 k (by omega) (by omega)))
            refine wpS_bind (wp_elemI IB (by omega) fun t1 q1 e1 => ?_)
            have hI3 := hI2.b1 sa e1 hle
            by_cases z3 : ib + 1 = b.size
            · rw [if_pos (by simpa using z3)]
              exact wpS_pure ⟨_, _, _, _, _, _, _, rfl, l2, .inl ⟨_, rfl, hI3.fin (.inr z3)⟩⟩
            · rw [if_neg (by simpa using z3)]
              refine wpS_bind (wp_elemI IA (by omega) fun t2 q2 e2 => ?_)
              refine wpS_bind (wp_gallop (l2.kind.trans hk) IB (by omega) (by omega) (Seg.from sb (by omega)) fun k2 g1 g2 g3 => ?_)
              dsimp only
              by_cases k20 : k2 > 0
              · rw [if_pos k20]
                have hI3 := hI3.bs sa k2 fun j h1 h2 => by
                  have := bey_t.mp (g2 (j - (ib + 1)) (by omega))
                  rw [show ib + 1 + (j - (ib + 1)) = j by omega] at this
                  omega
                by_cases z4 : ib + 1 + k2 = b.size
                · rw [if_pos (by simpa using z4)]
                  exact wpS_pure ⟨_, _, _, _, _, _, _, rfl, l2, .inl ⟨_, rfl, hI3.fin (.inr z4)⟩⟩
                · rw [if_neg (by simpa using z4)]
                  have hge := bey_tf.mp (g3 k2 (by omega) (by omega))
                  refine wpS_bind (wp_elemI IA (by omega) fun t3 q3 e3 => ?_)
                  have hI4 := hI3.a1 sb e3 hge
                  refine wp_ite (fun z5 => ?_) (fun z5 => ?_)
                  · exact wpS_pure ⟨_, _, _, _, _, _, _, rfl, l2, .inl ⟨_, rfl, hI4.last (eq_of_beq z5) hl⟩⟩
                  · rw [beq_iff_eq] at z5
                    refine wp_ite (fun _ => ?_) (fun _ => ?_)
                    · exact wpS_pure ⟨_, _, _, _, _, _, _, rfl, l2, .inr ⟨rfl, hI4, by omega, by omega, by omega⟩⟩
                    · exact wpS_pure ⟨_, _, _, _, _, _, rfl, l2, hI4, by omega, by omega, by omega⟩
              · rw [if_neg k20]
                obtain rfl : k2 = 0 := by omega
                have hge := bey_tf.mp (g3 0 (by omega) (by omega))
                refine wpS_bind (wp_elemI IA (by omega) fun t3 q3 e3 => ?_)
                have hI4 := hI3.a1 sb e3 hge
                refine wp_ite (fun z5 => ?_) (fun z5 => ?_)
                · exact wpS_pure ⟨_, _, _, _, _, _, _, rfl, l2, .inl ⟨_, rfl, hI4.last (eq_of_beq z5) hl⟩⟩
                · rw [beq_iff_eq] at z5
                  refine wp_ite (fun _ => ?_) (fun _ => ?_)
                  · exact wpS_pure ⟨_, _, _, _, _, _, _, rfl, l2, .inr ⟨rfl, hI4, by omega, by omega, by omega⟩⟩
                  · exact wpS_pure ⟨_, _, _, _, _, _, rfl, l2, hI4, by omega, by omega, by omega⟩
          · rw [if_neg k0]
            obtain rfl : k = 0 := by omega
            have hI2 := hI
            have hle := Int.le_of_lt (bey_ff.mp (h3 0 (by omega) (by omega)))
            refine wpS_bind (wp_elemI IB (by omega) fun t1 q1 e1 => ?_)
            have hI3 := hI2.b1 sa e1 hle
            by_cases z3 : ib + 1 = b.size
            · rw [if_pos (by simpa using z3)]
              exact wpS_pure ⟨_, _, _, _, _, _, _, rfl, l2, .inl ⟨_, rfl, hI3.fin (.inr z3)⟩⟩
            · rw [if_neg (by simpa using z3)]
              refine wpS_bind (wp_elemI IA (by omega) fun t2 q2 e2 => ?_)
              refine wpS_bind (wp_gallop (l2.kind.trans hk) IB (by omega) (by omega) (Seg.from sb (by omega)) fun k2 g1 g2 g3 => ?_)
              dsimp only
              by_cases k20 : k2 > 0
              · rw [if_pos k20]
                have hI3 := hI3.bs sa k2 fun j h1 h2 => by
                  have := bey_t.mp (g2 (j - (ib + 1)) (by omega))
                  rw [show ib + 1 + (j - (ib + 1)) = j by omega] at this
                  omega
                by_cases z4 : ib + 1 + k2 = b.size
                · rw [if_pos (by simpa using z4)]
                  exact wpS_pure ⟨_, _, _, _, _, _, _, rfl, l2, .inl ⟨_, rfl, hI3.fin (.inr z4)⟩⟩
                · rw [if_neg (by simpa using z4)]
                  have hge := bey_tf.mp (g3 k2 (by omega) (by omega))
                  refine wpS_bind (wp_elemI IA (by omega) fun t3 q3 e3 => ?_)
                  have hI4 := hI3.a1 sb e3 hge
                  refine wp_ite (fun z5 => ?_) (fun z5 => ?_)
                  · exact wpS_pure ⟨_, _, _, _, _, _, _, rfl, l2, .inl ⟨_, rfl, hI4.last (eq_of_beq z5) hl⟩⟩
                  · rw [beq_iff_eq] at z5
                    refine wp_ite (fun _ => ?_) (fun _ => ?_)
                    · exact wpS_pure ⟨_, _, _, _, _, _, _, rfl, l2, .inr ⟨rfl, hI4, by omega, by omega, by omega⟩⟩
                    · exact wpS_pure ⟨_, _, _, _, _, _, rfl, l2, hI4, by omega, by omega, by omega⟩
              · rw [if_neg k20]
                obtain rfl : k2 = 0 := by omega
                have hge := bey_tf.mp (g3 0 (by omega) (by omega))
                refine wpS_bind (wp_elemI IA (by omega) fun t3 q3 e3 => ?_)
                have hI4 := hI3.a1 sb e3 hge
                refine wp_ite (fun z5 => ?_) (fun z5 => ?_)
                · exact wpS_pure ⟨_, _, _, _, _, _, _, rfl, l2, .inl ⟨_, rfl, hI4.last (eq_of_beq z5) hl⟩⟩
                · rw [beq_iff_eq] at z5
                  refine wp_ite (fun _ => ?_) (fun _ => ?_)
                  · exact wpS_pure ⟨_, _, _, _, _, _, _, rfl, l2, .inr ⟨rfl, hI4, by omega, by omega, by omega⟩⟩
                  · exact wpS_pure ⟨_, _, _, _, _, _, rfl, l2, hI4, by omega, by omega, by omega⟩
end
end Tim
namespace Tim
open PySem PyProof.Rows
def mergeHi' : Array Keyed → Array Keyed → StateT SortSt Sem (Array Keyed) := sortPriv% PySem.Builtin.mergeHi
structure Ouh (o ra rb all : List Keyed) : Prop where
  perm : (ra ++ rb ++ o).Perm all
  srt : Srt o
  sa : Srt ra
  sb : Srt rb
  high : ∀ x ∈ o, ∀ y, y ∈ ra ∨ y ∈ rb → keyN y ≤ keyN x
theorem Ouh.takeA {o ra rb all : List Keyed} (h : Ouh o ra rb all) (k : Nat) (hk : ∀ x ∈ ra.drop k, ∀ y ∈ rb, keyN y ≤ keyN x) : Ouh (ra.drop k ++ o) (ra.take k) rb all := by
  obtain ⟨s1, s2, s3⟩ := h.sa.split k
  refine ⟨?_, ?_, s1, h.sb, fun x hx y hy => ?_⟩
  · refine List.Perm.trans ?_ h.perm
    conv => rhs; rw [← List.take_append_drop k ra]
    rw [← List.append_assoc]
    refine List.Perm.append_right o ?_
    rw [List.append_assoc, List.append_assoc]
    exact List.Perm.append_left _ List.perm_append_comm
  · unfold Srt
    rw [List.pairwise_append]
    exact ⟨s2, h.srt, fun x hx y hy => h.high y hy x (.inl (List.mem_of_mem_drop hx))⟩
  · rcases List.mem_append.mp hx with k1 | k1
    · rcases hy with hy | hy
      · exact s3 y hy x k1
      · exact hk x k1 y hy
    · exact h.high x k1 y (hy.imp List.mem_of_mem_take id)
theorem Ouh.takeB {o ra rb all : List Keyed} (h : Ouh o ra rb all) (k : Nat) (hk : ∀ x ∈ rb.drop k, ∀ y ∈ ra, keyN y ≤ keyN x) : Ouh (rb.drop k ++ o) ra (rb.take k) all := by
  obtain ⟨s1, s2, s3⟩ := h.sb.split k
  refine ⟨?_, ?_, h.sa, s1, fun x hx y hy => ?_⟩
  · refine List.Perm.trans ?_ h.perm
    conv => rhs; rw [← List.take_append_drop k rb]
    rw [← List.append_assoc, ← List.append_assoc]
  · unfold Srt
    rw [List.pairwise_append]
    exact ⟨s2, h.srt, fun x hx y hy => h.high y hy x (.inr (List.mem_of_mem_drop hx))⟩
  · rcases List.mem_append.mp hx with k1 | k1
    · rcases hy with hy | hy
      · exact hk x k1 y hy
      · exact s3 y hy x k1
    · exact h.high x k1 y (hy.imp id List.mem_of_mem_take)
theorem Ouh.done {o ra rb all : List Keyed} (h : Ouh o ra rb all) (he : ra = [] ∨ rb = []) : (ra ++ rb ++ o).Perm all ∧ Srt (ra ++ rb ++ o) := by
  refine ⟨h.perm, ?_⟩
  unfold Srt
  rcases he with rfl | rfl
  · rw [List.nil_append, List.pairwise_append]
    exact ⟨h.sb, h.srt, fun x hx y hy => h.high y hy x (.inr hx)⟩
  · rw [List.append_nil, List.pairwise_append]
    exact ⟨h.sa, h.srt, fun x hx y hy => h.high y hy x (.inl hx)⟩
theorem Ouh.first {o ra rb all : List Keyed} (h : Ouh o ra rb all) (he : ∀ y ∈ rb, ∀ x ∈ ra, keyN y ≤ keyN x) : (rb ++ ra ++ o).Perm all ∧ Srt (rb ++ ra ++ o) := by
  refine ⟨?_, ?_⟩
  · refine List.Perm.trans ?_ h.perm
    exact List.Perm.append_right o List.perm_append_comm
  · unfold Srt
    rw [List.pairwise_append, List.pairwise_append]
    refine ⟨⟨h.sb, h.sa, he⟩, h.srt, fun x hx y hy => ?_⟩
    rcases List.mem_append.mp hx with k | k
    · exact h.high y hy x (.inr k)
    · exact h.high y hy x (.inl k)
def InvH (a b out : Array Keyed) (na nb : Nat) : Prop := Ouh out.toList.reverse (a.toList.take na) (b.toList.take nb) (a.toList ++ b.toList)
theorem mem_low {a : Array Keyed} {i k : Nat} {x : Keyed} (h : x ∈ (a.toList.take k).drop i) : ∃ j, i ≤ j ∧ j < k ∧ j < a.size ∧ keyN x = K a j := by
  obtain ⟨m, hm, e⟩ := List.getElem_of_mem h
  rw [List.length_drop, List.length_take] at hm
  have hl : a.toList.length = a.size := Array.length_toList
  refine ⟨i + m, by omega, by omega, by omega, ?_⟩
  refine (K_of ?_).symm
  rw [← Array.getElem?_toList, ← e, List.getElem_drop, List.getElem_take]
  exact List.getElem?_eq_getElem (by omega)
theorem ext_low (a : Array Keyed) (i k : Nat) : (a.extract i k).toList = (a.toList.take k).drop i := by
  rw [ext_list, List.drop_take]
section
variable {a b out : Array Keyed} {na nb : Nat}
theorem InvH.start (ha : Seg a 0 a.size) (hb : Seg b 0 b.size) : InvH a b #[] a.size b.size := by
  have e1 : a.toList.take a.size = a.toList := List.take_of_length_le (by rw [Array.length_toList]; omega)
  have e2 : b.toList.take b.size = b.toList := List.take_of_length_le (by rw [Array.length_toList]; omega)
  unfold InvH
  rw [e1, e2]
  exact ⟨by show (a.toList ++ b.toList ++ []).Perm _; rw [List.append_nil], List.Pairwise.nil, srt_of ha, srt_of hb, fun x hx => nomatch hx⟩
theorem InvH.as (h : InvH a b out na nb) (hb : Seg b 0 b.size) (hnb : 1 ≤ nb) (hnb2 : nb ≤ b.size) (k : Nat) (hkn : k ≤ na) (hk : ∀ j, k ≤ j → j < na → K b (nb - 1) ≤ K a j) : InvH a b (out ++ (a.extract k na).reverse) k nb := by
  have z := Ouh.takeA h k fun x hx y hy => by
    obtain ⟨j, h1, h2, h3, e⟩ := mem_low hx
    obtain ⟨m, g1, g2, e2⟩ := mem_take hy
    rw [e, e2]
    exact Int.le_trans (hb m (nb - 1) (by omega) (by omega) (by omega)) (hk j h1 h2)
  unfold InvH
  rw [Array.toList_append, Array.toList_reverse, List.reverse_append, List.reverse_reverse, ext_low]
  rw [List.take_take, show min k na = k by omega] at z
  exact z
theorem InvH.bs (h : InvH a b out na nb) (ha : Seg a 0 a.size) (hna : 1 ≤ na) (hna2 : na ≤ a.size) (k : Nat) (hkn : k ≤ nb) (hk : ∀ j, k ≤ j → j < nb → K a (na - 1) ≤ K b j) : InvH a b (out ++ (b.extract k nb).reverse) na k := by
  have z := Ouh.takeB h k fun x hx y hy => by
    obtain ⟨j, h1, h2, h3, e⟩ := mem_low hx
    obtain ⟨m, g1, g2, e2⟩ := mem_take hy
    rw [e, e2]
    exact Int.le_trans (ha m (na - 1) (by omega) (by omega) (by omega)) (hk j h1 h2)
  unfold InvH
  rw [Array.toList_append, Array.toList_reverse, List.reverse_append, List.reverse_reverse, ext_low]
  rw [List.take_take, show min k nb = k by omega] at z
  exact z
theorem ext_oneR {a : Array Keyed} {i : Nat} {x : Keyed} (hi : 1 ≤ i) (e : a[i - 1]? = some x) : out.push x = out ++ (a.extract (i - 1) i).reverse := by
  apply Array.toList_inj.mp
  rw [Array.toList_push, Array.toList_append, Array.toList_reverse, ext_list, drop_cons e, show i - (i - 1) = 1 by omega]
  rfl
theorem InvH.a1 (h : InvH a b out na nb) (hb : Seg b 0 b.size) (hnb : 1 ≤ nb) (hnb2 : nb ≤ b.size) {x : Keyed} (hna : 1 ≤ na) (e : a[na - 1]? = some x) (hk : K b (nb - 1) ≤ K a (na - 1)) : InvH a b (out.push x) (na - 1) nb := by
  rw [ext_oneR hna e]
  exact h.as hb hnb hnb2 _ (by omega) fun j h1 h2 => by
    have : j = na - 1 := by omega
    subst this
    exact hk
theorem InvH.b1 (h : InvH a b out na nb) (ha : Seg a 0 a.size) (hna : 1 ≤ na) (hna2 : na ≤ a.size) {x : Keyed} (hnb : 1 ≤ nb) (e : b[nb - 1]? = some x) (hk : K a (na - 1) ≤ K b (nb - 1)) : InvH a b (out.push x) na (nb - 1) := by
  rw [ext_oneR hnb e]
  exact h.bs ha hna hna2 _ (by omega) fun j h1 h2 => by
    have : j = nb - 1 := by omega
    subst this
    exact hk
theorem ext_start (a : Array Keyed) (i : Nat) : (a.extract 0 i).toList = a.toList.take i := by
  rw [ext_list]
  rfl
theorem InvH.fin (h : InvH a b out na nb) (e : na = 0 ∨ nb = 0) : Good a b (a.extract 0 na ++ b.extract 0 nb ++ out.reverse) := by
  unfold Good
  rw [Array.toList_append, Array.toList_append, ext_start, ext_start, Array.toList_reverse]
  refine Ouh.done h (e.imp ?_ ?_)
  · rintro rfl; rfl
  · rintro rfl; rfl
theorem InvH.first (h : InvH a b out na nb) (e : nb = 1) (hl : ∀ j, j < a.size → K b 0 ≤ K a j) : Good a b (b.extract 0 nb ++ a.extract 0 na ++ out.reverse) := by
  unfold Good
  rw [Array.toList_append, Array.toList_append, ext_start, ext_start, Array.toList_reverse]
  refine Ouh.first h fun y hy x hx => ?_
  obtain ⟨j, h1, h2, e1⟩ := mem_take hx
  obtain ⟨m, g1, g2, e2⟩ := mem_take hy
  rw [e1, e2, show m = 0 by omega]
  exact hl j h2
end
section
variable {prog : Program} {w : World} {A : Around} {E : Value → Shared → Prop} {s : Shared}
def MidH (a b : Array Keyed) (st : SortSt) (n : Nat) (r : Option (Array Keyed)) (o : Array Keyed) (i j : Nat) (st' : SortSt) : Prop :=
  Lk st st' ∧ ((∃ x, r = some x ∧ Good a b x) ∨ (r = none ∧ InvH a b o i j ∧ 1 ≤ i ∧ i ≤ a.size ∧ 2 ≤ j ∧ j ≤ b.size ∧ i + j ≤ n))
theorem Seg.to {a : Array Keyed} {n : Nat} (h : Seg a 0 a.size) (e : n ≤ a.size) : Seg a 0 (0 + n) := fun x y h1 h2 h3 => h x y (by omega) h2 (by omega)
theorem wp_mergeHi {st : SortSt} {a b : Array Keyed} {Q : Array Keyed → SortSt → Prop} (hk : kindOf st = oneType') (IA : IntKeys a) (IB : IntKeys b) (na : 1 ≤ a.size) (nb : 1 ≤ b.size) (sa : Seg a 0 a.size) (sb : Seg b 0 b.size)
    (hf : K b 0 ≤ K a 0) (hl : ∀ j, j < b.size → K b j ≤ K a (a.size - 1))
    (h : ∀ r st', Lk st st' → Good a b r → Q r st') : wpS (model prog w) A E s (mergeHi' a b) Q st := by
  have hf' : ∀ j, j < a.size → K b 0 ≤ K a j := fun j hj => Int.le_trans hf (sa 0 j (by omega) (by omega) hj)
  refine wpS_bind (wpS_lift (wpAny_rule ⟨rfl, ?_⟩))
  dsimp only
  refine wpS_bind (wp_elemI IA (by omega) fun t0 p0 e0 => ?_)
  have hI : InvH a b #[(.int (K a (a.size - 1)) t0, p0)] (a.size - 1) b.size := (InvH.start sa sb).a1 sb (by omega) (by omega) (by omega) e0 (hl (b.size - 1) (by omega))
  by_cases z1 : a.size - 1 = 0
  · rw [if_pos (by simpa using z1)]
    exact wpS_pure (h _ _ (Lk.refl _) (hI.fin (.inl z1)))
  rw [if_neg (by simpa using z1)]
  by_cases z2 : b.size = 1
  · rw [if_pos (by simpa using z2)]
    exact wpS_pure (h _ _ (Lk.refl _) (hI.first z2 hf'))
  rw [if_neg (by simpa using z2)]
  refine wpS_bind (wpS_get ?_)
  refine wpS_bind (wpS_mono (wpS_forRange (I := fun x c st' => ∃ o i j g, c = (none, i, j, o, g) ∧ Lk st st' ∧ InvH a b o i j ∧ 1 ≤ i ∧ i ≤ a.size ∧ 2 ≤ j ∧ j ≤ b.size ∧ i + j + x ≤ a.size + b.size)
    (Q := fun c st' => Lk st st' ∧ ∃ x, c.1 = some x ∧ Good a b x) ?step ?fin ?init) ?post)
  case init => exact ⟨_, _, _, _, rfl, Lk.refl _, hI, by omega, by omega, by omega, by omega, by omega⟩
  case post =>
    rintro c st' ⟨l, x, e, g⟩
    rw [e]
    exact wpS_pure (h _ _ l g)
  case fin =>
    rintro c st' ⟨o, i, j, g, rfl, l, _, h1, h2, h3, h4, h5⟩
    exfalso
    omega
  case step =>
    rintro x c st1 _ hx ⟨out, na, nb, g, rfl, l1, hI, ha, ha', hb, hb', hn⟩
    dsimp only
    refine wpS_bind (wpS_mono (wpS_forRange (I := fun y c st' => ∃ o i j ac bc, c = (none, i, j, o, ac, bc) ∧ Lk st st' ∧ InvH a b o i j ∧ 1 ≤ i ∧ i ≤ a.size ∧ 2 ≤ j ∧ j ≤ b.size ∧ i + j + y ≤ na + nb)
      (Q := fun c st' => ∃ r o i j ac bc, c = (r, i, j, o, ac, bc) ∧ MidH a b st (na + nb - 1) r o i j st') ?step1 ?fin1 ⟨_, _, _, _, _, rfl, l1, hI, ha, ha', hb, hb', by omega⟩) ?post1)
    case fin1 =>
      rintro c st' ⟨o, i, j, ac, bc, rfl, l, _, h1, h2, h3, h4, h5⟩
      exfalso
      omega
    case step1 =>
      rintro y c st2 _ hy ⟨out, na2, nb2, ac, bc, rfl, l2, hI, ha2, ha2', hb2, hb2', hn2⟩
      dsimp only
      refine wpS_bind (wp_elemI IB (by omega) fun t1 p1 e1 => ?_)
      refine wpS_bind (wp_elemI IA (by omega) fun t2 p2 e2 => ?_)
      refine wpS_bind (wp_lt (l2.kind.trans hk) ?_)
      dsimp only
      by_cases hw : K b (nb2 - 1) < K a (na2 - 1)
      · rw [if_pos (by simpa using hw)]
        refine wpS_bind (wp_elemI IA (by omega) fun t3 p3 e3 => ?_)
        have hI2 := hI.a1 sb (by omega) (by omega) (by omega) e3 (Int.le_of_lt hw)
        refine wp_ite (fun z3 => ?_) (fun z3 => ?_)
        · exact wpS_pure ⟨_, _, _, _, _, _, rfl, l2, .inl ⟨_, rfl, hI2.fin (.inl (eq_of_beq z3))⟩⟩
        · rw [beq_iff_eq] at z3
          refine wp_ite (fun _ => ?_) (fun _ => ?_)
          · exact wpS_pure ⟨_, _, _, _, _, _, rfl, l2, .inr ⟨rfl, hI2, by omega, by omega, by omega, by omega, by omega⟩⟩
          · exact wpS_pure ⟨_, _, _, _, _, rfl, l2, hI2, by omega, by omega, by omega, by omega, by omega⟩
      · rw [if_neg (by simpa using hw)]
        refine wpS_bind (wp_elemI IB (by omega) fun t3 p3 e3 => ?_)
        have hI2 := hI.b1 sa (by omega) (by omega) (by omega) e3 (Int.not_lt.mp hw)
        refine wp_ite (fun z3 => ?_) (fun z3 => ?_)
        · exact wpS_pure ⟨_, _, _, _, _, _, rfl, l2, .inl ⟨_, rfl, hI2.first (eq_of_beq z3) hf'⟩⟩
        · rw [beq_iff_eq] at z3
          refine wp_ite (fun _ => ?_) (fun _ => ?_)
          · exact wpS_pure ⟨_, _, _, _, _, _, rfl, l2, .inr ⟨rfl, hI2, by omega, by omega, by omega, by omega, by omega⟩⟩
          · exact wpS_pure ⟨_, _, _, _, _, rfl, l2, hI2, by omega, by omega, by omega, by omega, by omega⟩
    case post1 =>
      rintro c st2 ⟨r, out2, na2, nb2, ac, bc, rfl, l2, ⟨x2, rfl, hg⟩ | ⟨rfl, hI2, ha2, ha2', hb2, hb2', hn2⟩⟩
      · exact wpS_pure ⟨l2, x2, rfl, hg⟩
      dsimp only
      refine wpS_bind (wpS_lift (wpAny_rule ⟨rfl, ?_⟩))
      refine wpS_bind (wpS_mono (wpS_forRange (I := fun y c st' => ∃ o i j g ac bc, c = (none, i, j, o, g, ac, bc) ∧ Lk st st' ∧ InvH a b o i j ∧ 1 ≤ i ∧ i ≤ a.size ∧ 2 ≤ j ∧ j ≤ b.size ∧ i + j + y ≤ na2 + nb2)
        (Q := fun c st' => ∃ r o i j g ac bc, c = (r, i, j, o, g, ac, bc) ∧ MidH a b st (na2 + nb2) r o i j st') ?step2 ?fin2 ⟨_, _, _, _, _, _, rfl, l2, hI2, ha2, ha2', hb2, hb2', by omega⟩) ?post2)
      case fin2 =>
        rintro c st' ⟨o, i, j, g, ac, bc, rfl, l, _, h1, h2, h3, h4, h5⟩
        exfalso
        omega
      case post2 =>
        rintro c st' ⟨r, o, i, j, g, ac, bc, rfl, l, ⟨x2, rfl, hg⟩ | ⟨rfl, hI4, ha4, ha4', hb4, hb4', hn4⟩⟩
        · exact wpS_pure ⟨l, x2, rfl, hg⟩
        · dsimp only
          exact wpS_bind (wp_setG fun st5 l5 => wpS_pure ⟨_, _, _, _, rfl, l.trans l5, hI4, ha4, ha4', hb4, hb4', by omega⟩)
      case step2 =>
        rintro y c st3 _ hy ⟨out, na, nb, g, ac, bc, rfl, l3, hI, ha3, ha3', hb3, hb3', hn3⟩
        dsimp only
        refine wp_ite (fun _ => ?_) (fun _ => ?_)
        all_goals
          refine wpS_bind (wp_setG fun st2 l2 => ?_)
          have l2 := l3.trans l2
          refine wpS_bind (wp_elemI IB (by omega) fun t0 q0 e0 => ?_)
          refine wpS_bind (wp_gallop (l2.kind.trans hk) IA (by omega) (by omega) (Seg.to sa (by omega)) fun k h1 h2 h3 => ?_)
          dsimp only
          by_cases k0 : na - k > 0
          · rw [if_pos k0]
            have hI2 := hI.as sb (by omega) (by omega) k h1 fun j g1 g2 => by
              have := bey_ff.mp (h3 j (by omega) (by omega))
              rw [Nat.zero_add] at this
              exact Int.le_of_lt this
            refine wp_ite (fun z1 => ?_) (fun z1 => ?_)
            · exact wpS_pure ⟨_, _, _, _, _, _, _, rfl, l2, .inl ⟨_, rfl, hI2.fin (.inl (eq_of_beq z1))⟩⟩
            rw [beq_iff_eq] at z1
            have hle := bey_f.mp (h2 (k - 1) (by omega))
            rw [Nat.zero_add] at hle
            refine wpS_bind (wp_elemI IB (by omega) fun t1 q1 e1 => ?_)
            have hI3 := hI2.b1 sa (by omega) (by omega) (by omega) e1 hle
            refine wp_ite (fun z3 => ?_) (fun z3 => ?_)
            · exact wpS_pure ⟨_, _, _, _, _, _, _, rfl, l2, .inl ⟨_, rfl, hI3.first (eq_of_beq z3) hf'⟩⟩
            · rw [beq_iff_eq] at z3
              refine wpS_bind (wp_elemI IA (by omega) fun t2 q2 e2 => ?_)
              refine wpS_bind (wp_gallop (l2.kind.trans hk) IB (by omega) (by omega) (Seg.to sb (by omega)) fun k2 g1 g2 g3 => ?_)
              dsimp only
              by_cases k20 : nb - 1 - k2 > 0
              · rw [if_pos k20]
                have hI3 := hI3.bs sa (by omega) (by omega) k2 g1 fun j h1 h2 => by
                  have := bey_tf.mp (g3 j (by omega) (by omega))
                  rwa [Nat.zero_add] at this
                refine wp_ite (fun z4 => ?_) (fun z4 => ?_)
                · exact wpS_pure ⟨_, _, _, _, _, _, _, rfl, l2, .inl ⟨_, rfl, hI3.first (eq_of_beq z4) hf'⟩⟩
                · rw [beq_iff_eq] at z4
                  refine wp_ite (fun z5 => ?_) (fun z5 => ?_)
                  · exact wpS_pure ⟨_, _, _, _, _, _, _, rfl, l2, .inl ⟨_, rfl, hI3.fin (.inr (eq_of_beq z5))⟩⟩
                  · rw [beq_iff_eq] at z5
                    have hge := Int.le_of_lt (bey_t.mp (g2 (k2 - 1) (by omega)))
                    rw [Nat.zero_add] at hge
                    refine wpS_bind (wp_elemI IA (by omega) fun t3 q3 e3 => ?_)
                    have hI4 := hI3.a1 sb (by omega) (by omega) (by omega) e3 hge
                    refine wp_ite (fun z5 => ?_) (fun z5 => ?_)
                    · exact wpS_pure ⟨_, _, _, _, _, _, _, rfl, l2, .inl ⟨_, rfl, hI4.fin (.inl (eq_of_beq z5))⟩⟩
                    · rw [beq_iff_eq] at z5
                      refine wp_ite (fun _ => ?_) (fun _ => ?_)
                      · exact wpS_pure ⟨_, _, _, _, _, _, _, rfl, l2, .inr ⟨rfl, hI4, by omega, by omega, by omega, by omega, by omega⟩⟩
                      · exact wpS_pure ⟨_, _, _, _, _, _, rfl, l2, hI4, by omega, by omega, by omega, by omega, by omega⟩
              · rw [if_neg k20]
                obtain rfl : k2 = nb - 1 := by omega
                have hge := Int.le_of_lt (bey_t.mp (g2 (nb - 1 - 1) (by omega)))
                rw [Nat.zero_add] at hge
                refine wpS_bind (wp_elemI IA (by omega) fun t3 q3 e3 => ?_)
                have hI4 := hI3.a1 sb (by omega) (by omega) (by omega) e3 hge
                refine wp_ite (fun z5 => ?_) (fun z5 => ?_)
                · exact wpS_pure ⟨_, _, _, _, _, _, _, rfl, l2, .inl ⟨_, rfl, hI4.fin (.inl (eq_of_beq z5))⟩⟩
                · rw [beq_iff_eq] at z5
                  refine wp_ite (fun _ => ?_) (fun _ => ?_)
                  · exact wpS_pure ⟨_, _, _, _, _, _, _, rfl, l2, .inr ⟨rfl, hI4, by omega, by omega, by omega, by omega, by omega⟩⟩
                  · exact wpS_pure ⟨_, _, _, _, _, _, rfl, l2, hI4, by omega, by omega, by omega, by omega, by omega⟩
          · rw [if_neg k0]
            obtain rfl : k = na := by omega
            have hI2 := hI
            have hle := bey_f.mp (h2 (k - 1) (by omega))
            rw [Nat.zero_add] at hle
            refine wpS_bind (wp_elemI IB (by omega) fun t1 q1 e1 => ?_)
            have hI3 := hI2.b1 sa (by omega) (by omega) (by omega) e1 hle
            refine wp_ite (fun z3 => ?_) (fun z3 => ?_)
            · exact wpS_pure ⟨_, _, _, _, _, _, _, rfl, l2, .inl ⟨_, rfl, hI3.first (eq_of_beq z3) hf'⟩⟩
            · rw [beq_iff_eq] at z3
              refine wpS_bind (wp_elemI IA (by omega) fun t2 q2 e2 => ?_)
              refine wpS_bind (wp_gallop (l2.kind.trans hk) IB (by omega) (by omega) (Seg.to sb (by omega)) fun k2 g1 g2 g3 => ?_)
              dsimp only
              by_cases k20 : nb - 1 - k2 > 0
              · rw [if_pos k20]
                have hI3 := hI3.bs sa (by omega) (by omega) k2 g1 fun j h1 h2 => by
                  have := bey_tf.mp (g3 j (by omega) (by omega))
                  rwa [Nat.zero_add] at this
                refine wp_ite (fun z4 => ?_) (fun z4 => ?_)
                · exact wpS_pure ⟨_, _, _, _, _, _, _, rfl, l2, .inl ⟨_, rfl, hI3.first (eq_of_beq z4) hf'⟩⟩
                · rw [beq_iff_eq] at z4
                  refine wp_ite (fun z5 => ?_) (fun z5 => ?_)
                  · exact wpS_pure ⟨_, _, _, _, _, _, _, rfl, l2, .inl ⟨_, rfl, hI3.fin (.inr (eq_of_beq z5))⟩⟩
                  · rw [beq_iff_eq] at z5
                    have hge := Int.le_of_lt (bey_t.mp (g2 (k2 - 1) (by omega)))
                    rw [Nat.zero_add] at hge
                    refine wpS_bind (wp_elemI IA (by omega) fun t3 q3 e3 => ?_)
                    have hI4 := hI3.a1 sb (by omega) (by omega) (by omega) e3 hge
                    refine wp_ite (fun z5 => ?_) (fun z5 => ?_)
                    · exact wpS_pure ⟨_, _, _, _, _, _, _, rfl, l2, .inl ⟨_, rfl, hI4.fin (.inl (eq_of_beq z5))⟩⟩
                    · rw [beq_iff_eq] at z5
                      refine wp_ite (fun _ => ?_) (fun _ => ?_)
                      · exact wpS_pure ⟨_, _, _, _, _, _, _, rfl, l2, .inr ⟨rfl, hI4, by omega, by omega, by omega, by omega, by omega⟩⟩
                      · exact wpS_pure ⟨_, _, _, _, _, _, rfl, l2, hI4, by omega, by omega, by omega, by omega, by omega⟩
              · rw [if_neg k20]
                obtain rfl : k2 = nb - 1 := by omega
                have hge := Int.le_of_lt (bey_t.mp (g2 (nb - 1 - 1) (by omega)))
                rw [Nat.zero_add] at hge
                refine wpS_bind (wp_elemI IA (by omega) fun t3 q3 e3 => ?_)
                have hI4 := hI3.a1 sb (by omega) (by omega) (by omega) e3 hge
                refine wp_ite (fun z5 => ?_) (fun z5 => ?_)
                · exact wpS_pure ⟨_, _, _, _, _, _, _, rfl, l2, .inl ⟨_, rfl, hI4.fin (.inl (eq_of_beq z5))⟩⟩
                · rw [beq_iff_eq] at z5
                  refine wp_ite (fun _ => ?_) (fun _ => ?_)
                  · exact wpS_pure ⟨_, _, _, _, _, _, _, rfl, l2, .inr ⟨rfl, hI4, by omega, by omega, by omega, by omega, by omega⟩⟩
                  · exact wpS_pure ⟨_, _, _, _, _, _, rfl, l2, hI4, by omega, by omega, by omega, by omega, by omega⟩
end
end Tim
namespace Tim
open PySem PyProof.Rows
theorem wp_set {σ : Type} {M : Model} {A : Around} {E : Value → Shared → Prop} {s : Shared} {Q : PUnit → σ → Prop} {st st' : σ} (h : Q ⟨⟩ st') : wpS M A E s (set st' : StateT σ Sem PUnit) Q st := by
  unfold wpS
  rw [StateT.run_set]
  exact wpAny_pure ⟨rfl, h⟩
def laid (s : Nat) (l : List Keyed) (n : Nat) (xs : Array Keyed) : Array Keyed := (l.zipIdx n).foldl (fun a (p, j) => a.setIfInBounds (s + j) p) xs
theorem laid_at (s : Nat) : ∀ (l : List Keyed) (n : Nat) (xs : Array Keyed), s + n + l.length ≤ xs.size → (laid s l n xs).size = xs.size ∧ ∀ i, (laid s l n xs)[i]? = if s + n ≤ i ∧ i < s + n + l.length then l[i - (s + n)]? else xs[i]?
  | [], n, xs, h => ⟨rfl, fun i => by rw [if_neg (by rw [List.length_nil]; omega)]; rfl⟩
  | p :: l, n, xs, h => by
    rw [List.length_cons] at h
    have e : laid s (p :: l) n xs = laid s l (n + 1) (xs.setIfInBounds (s + n) p) := rfl
    obtain ⟨z1, z2⟩ := laid_at s l (n + 1) (xs.setIfInBounds (s + n) p) (by rw [Array.size_setIfInBounds]; omega)
    rw [e]
    refine ⟨z1.trans Array.size_setIfInBounds, fun i => ?_⟩
    rw [z2, List.length_cons]
    by_cases h1 : s + (n + 1) ≤ i ∧ i < s + (n + 1) + l.length
    · rw [if_pos h1, if_pos (by omega), show i - (s + n) = (i - (s + (n + 1))) + 1 by omega, List.getElem?_cons_succ]
    · rw [if_neg h1]
      by_cases h2 : i = s + n
      · subst h2
        rw [if_pos (by omega), show s + n - (s + n) = 0 by omega, Array.getElem?_setIfInBounds_self_of_lt (by omega)]
        rfl
      · rw [if_neg (by omega), Array.getElem?_setIfInBounds_ne (by omega)]
theorem laid_perm {lo mid hi : Nat} {xs M : Array Keyed} (h1 : lo ≤ mid) (h2 : mid ≤ hi) (h3 : hi ≤ xs.size) (hM : Good (xs.extract lo mid) (xs.extract mid hi) M) : M.size = hi - lo ∧ (laid lo M.toList 0 xs).Perm xs := by
  have hl : xs.toList.length = xs.size := Array.length_toList
  have hm : M.toList.length = M.size := Array.length_toList
  have e : (xs.extract lo mid).toList ++ (xs.extract mid hi).toList = (xs.toList.drop lo).take (hi - lo) := by
    rw [ext_list, ext_list, show hi - lo = (mid - lo) + (hi - mid) by omega, List.take_add, List.drop_drop, show lo + (mid - lo) = mid by omega]
  have sz : M.size = hi - lo := by
    have := hM.1.length_eq
    rw [e, List.length_take, List.length_drop] at this
    omega
  refine ⟨sz, ?_⟩
  rw [Array.perm_iff_toList_perm]
  have ey : (laid lo M.toList 0 xs).toList = xs.toList.take lo ++ (M.toList ++ xs.toList.drop hi) := by
    obtain ⟨z1, z2⟩ := laid_at lo M.toList 0 xs (by omega)
    apply List.ext_getElem?
    intro i
    rw [Array.getElem?_toList, z2, hm, sz]
    rw [List.getElem?_append, List.getElem?_append, List.length_take, hm, sz, show min lo xs.toList.length = lo by omega]
    by_cases g1 : i < lo
    · rw [if_neg (by omega), if_pos g1, List.getElem?_take, if_pos g1, Array.getElem?_toList]
    · rw [if_neg g1]
      by_cases g2 : i < hi
      · rw [if_pos (by omega), if_pos (by omega)]
        rfl
      · rw [if_neg (by omega), if_neg (by omega), List.getElem?_drop, Array.getElem?_toList]
        congr 1
        omega
  rw [ey]
  have ex : xs.toList = xs.toList.take lo ++ ((xs.toList.drop lo).take (hi - lo) ++ xs.toList.drop hi) := by
    conv => lhs; rw [← List.take_append_drop lo xs.toList, ← List.take_append_drop (hi - lo) (xs.toList.drop lo), List.drop_drop, show lo + (hi - lo) = hi by omega]
  conv => rhs; rw [ex, ← e]
  exact List.Perm.append_left _ (List.Perm.append_right _ hM.1)
theorem K_laid {lo : Nat} {xs M : Array Keyed} (h : lo + M.size ≤ xs.size) (i : Nat) : K (laid lo M.toList 0 xs) i = if lo ≤ i ∧ i < lo + M.size then K M (i - lo) else K xs i := by
  have hm : M.toList.length = M.size := Array.length_toList
  obtain ⟨z1, z2⟩ := laid_at lo M.toList 0 xs (by omega)
  unfold K
  rw [z2, hm, Nat.add_zero]
  by_cases g : lo ≤ i ∧ i < lo + M.size
  · rw [if_pos g, if_pos g, Array.getElem?_toList]
  · rw [if_neg g, if_neg g]
theorem seg_of {M : Array Keyed} (h : Srt M.toList) : Seg M 0 M.size := fun i j _ h2 h3 => by
  by_cases e : i = j
  · subst e; exact Int.le_refl _
  have hm : M.toList.length = M.size := Array.length_toList
  have e1 : M[i]? = some M.toList[i] := by rw [← Array.getElem?_toList]; exact List.getElem?_eq_getElem (by omega)
  have e2 : M[j]? = some M.toList[j] := by rw [← Array.getElem?_toList]; exact List.getElem?_eq_getElem (by omega)
  rw [K_of e1, K_of e2]
  exact List.pairwise_iff_getElem.mp h i j (by omega) (by omega) (by omega)
theorem merge_seg {xs M : Array Keyed} {sa na nb k n2 : Nat} (h : sa + na + nb ≤ xs.size) (hna : 1 ≤ na) (hnb : 1 ≤ nb) (s1 : Seg xs sa (sa + na)) (s2 : Seg xs (sa + na) (sa + na + nb)) (hk : k ≤ na) (hn2 : n2 ≤ nb)
    (g1 : ∀ i, i < k → K xs (sa + i) ≤ K xs (sa + na)) (g2 : ∀ i, n2 ≤ i → i < nb → K xs (sa + na - 1) ≤ K xs (sa + na + i))
    (hM : Good (xs.extract (sa + k) (sa + na)) (xs.extract (sa + na) (sa + na + n2)) M) :
    (laid (sa + k) M.toList 0 xs).Perm xs ∧ (∀ i, i < sa ∨ sa + na + nb ≤ i → K (laid (sa + k) M.toList 0 xs) i = K xs i) ∧ Seg (laid (sa + k) M.toList 0 xs) sa (sa + (na + nb)) := by
  obtain ⟨sz, pm⟩ := laid_perm (by omega) (by omega) (by omega) hM
  have KL := K_laid (lo := sa + k) (xs := xs) (M := M) (by omega)
  have sM := seg_of hM.2
  have hl : xs.toList.length = xs.size := Array.length_toList
  have hm : M.toList.length = M.size := Array.length_toList
  have from_ : ∀ m, m < M.size → ∃ j, sa + k ≤ j ∧ j < sa + na + n2 ∧ K M m = K xs j := fun m hm' => by
    have e1 : M[m]? = some M.toList[m] := by rw [← Array.getElem?_toList]; exact List.getElem?_eq_getElem (by omega)
    have mem : M.toList[m] ∈ M.toList := List.getElem_mem _
    have mem := hM.1.mem_iff.mp mem
    rw [K_of e1]
    rcases List.mem_append.mp mem with q | q
    · rw [ext_list] at q
      obtain ⟨j, j1, j2, j3, e⟩ := mem_mid q
      exact ⟨j, by omega, by omega, e⟩
    · rw [ext_list] at q
      obtain ⟨j, j1, j2, j3, e⟩ := mem_mid q
      exact ⟨j, by omega, by omega, e⟩
  refine ⟨pm, fun i hi => by rw [KL, if_neg (by omega)], fun i j h1 h2 h3 => ?_⟩
  have low : ∀ i j, sa ≤ i → i < sa + k → i ≤ j → j < sa + na + nb → K xs i ≤ K xs j := fun i j h1 h2 h3 h4 => by
    by_cases hj : j < sa + na
    · exact s1 i j h1 h3 hj
    · have := g1 (i - sa) (by omega)
      rw [show sa + (i - sa) = i by omega] at this
      exact Int.le_trans this (s2 _ j (by omega) (by omega) (by omega))
  have high : ∀ i j, sa ≤ i → i ≤ j → sa + na + n2 ≤ j → j < sa + na + nb → K xs i ≤ K xs j := fun i j h1 h2 h3 h4 => by
    by_cases hi : i < sa + na
    · have := g2 (j - (sa + na)) (by omega) (by omega)
      rw [show sa + na + (j - (sa + na)) = j by omega] at this
      exact Int.le_trans (s1 i _ h1 (by omega) (by omega)) this
    · exact s2 i j (by omega) h2 (by omega)
  rw [KL, KL]
  by_cases c1 : sa + k ≤ i ∧ i < sa + k + M.size
  · rw [if_pos c1]
    by_cases c2 : sa + k ≤ j ∧ j < sa + k + M.size
    · rw [if_pos c2]
      exact sM _ _ (by omega) (by omega) (by omega)
    · rw [if_neg c2]
      obtain ⟨m, m1, m2, e⟩ := from_ (i - (sa + k)) (by omega)
      rw [e]
      exact high m j (by omega) (by omega) (by omega) (by omega)
  · rw [if_neg c1]
    by_cases c2 : sa + k ≤ j ∧ j < sa + k + M.size
    · rw [if_pos c2]
      obtain ⟨m, m1, m2, e⟩ := from_ (j - (sa + k)) (by omega)
      rw [e]
      exact low i m (by omega) (by omega) (by omega) (by omega)
    · rw [if_neg c2]
      by_cases c3 : i < sa + k
      · exact low i j (by omega) c3 h2 (by omega)
      · exact high i j (by omega) h2 (by omega) (by omega)
theorem ext_K (xs : Array Keyed) {i j m : Nat} (hj : j ≤ xs.size) (hm : m < j - i) : K (xs.extract i j) m = K xs (i + m) := by
  have hl : xs.toList.length = xs.size := Array.length_toList
  unfold K
  rw [← Array.getElem?_toList, ext_list, List.getElem?_take, if_pos hm, List.getElem?_drop, Array.getElem?_toList]
theorem ext_int {xs : Array Keyed} (h : IntKeys xs) (i j : Nat) : IntKeys (xs.extract i j) := fun p hp => by
  rw [ext_list] at hp
  exact h p (List.mem_of_mem_drop (List.mem_of_mem_take hp))
theorem ext_seg {xs : Array Keyed} {i j : Nat} (hj : j ≤ xs.size) (h : Seg xs i j) : Seg (xs.extract i j) 0 (xs.extract i j).size := fun x y h1 h2 h3 => by
  rw [Array.size_extract] at h3
  rw [ext_K xs hj (by omega), ext_K xs hj (by omega)]
  exact h _ _ (by omega) (by omega) (by omega)
section
variable {prog : Program} {w : World} {A : Around} {E : Value → Shared → Prop} {s : Shared} {a₀ : Array Keyed}
theorem wp_mergeAt {st : SortSt} {i : Nat} {Q : Bool → SortSt → Prop} {p1 p2 : List (Nat × Nat × Nat)} {sa na pw sb nb q : Nat} (h0 : IntKeys a₀) (hB : TB a₀ st)
    (hp : (pendingOf st).toList = p1 ++ (sa, na, pw) :: (sb, nb, q) :: p2) (hi : p1.length = i) (hs : sb = sa + na) (hna : 1 ≤ na) (hnb : 1 ≤ nb) (hsz : sb + nb ≤ a₀.size)
    (s1 : Seg (arrOf st) sa (sa + na)) (s2 : Seg (arrOf st) sb (sb + nb))
    (h : ∀ st', TB a₀ st' → (pendingOf st').toList = p1 ++ (sa, na + nb, pw) :: p2 → (∀ j, j < sa ∨ sa + (na + nb) ≤ j → K (arrOf st') j = K (arrOf st) j) → Seg (arrOf st') sa (sa + (na + nb)) → Q true st') :
    wpS (model prog w) A E s (mergeAt' i) Q st := by
  subst hs
  have hx := IntKeys.perm h0 hB.perm
  have hz := hB.size
  have e1 : (pendingOf st)[i]? = some (sa, na, pw) := by
    rw [← Array.getElem?_toList, hp, List.getElem?_append_right (by omega), hi, Nat.sub_self]
    rfl
  have e2 : (pendingOf st)[i + 1]? = some (sa + na, nb, q) := by
    rw [← Array.getElem?_toList, hp, List.getElem?_append_right (by omega), hi, show i + 1 - i = 1 by omega]
    rfl
  have e3 : (((pendingOf st).setIfInBounds i (sa, na + nb, pw)).eraseIdxIfInBounds (i + 1)).toList = p1 ++ (sa, na + nb, pw) :: p2 := by
    have lp : (pendingOf st).size = i + 2 + p2.length := by
      rw [← Array.length_toList, hp, List.length_append, List.length_cons, List.length_cons]
      omega
    rw [Array.eraseIdxIfInBounds, dif_pos (by rw [Array.size_setIfInBounds]; omega), Array.toList_eraseIdx, Array.toList_setIfInBounds, hp]
    subst hi
    rw [List.set_append_right _ _ (Nat.le_refl _), Nat.sub_self, List.eraseIdx_append_of_length_le (by omega), show p1.length + 1 - p1.length = 1 by omega]
    rfl
  refine wpS_bind (wpS_get ?_)
  dsimp only
  rw [e1, e2]
  dsimp only
  refine wpS_bind (wp_set ?_)
  refine wpS_bind (wp_elemI (arr := arrOf st) hx (by omega) fun t0 q0 x0 => ?_)
  refine wpS_bind (wp_gallop (arr := arrOf st) hB.kind hx (by omega) (by omega) s1 fun k h1 h2 h3 => ?_)
  dsimp only
  have B1 : TB a₀ (setPending st (((pendingOf st).setIfInBounds i (sa, na + nb, pw)).eraseIdxIfInBounds (i + 1))) := ⟨hB.perm, hB.kind, hB.failed⟩
  have g1 : ∀ i, i < k → K (arrOf st) (sa + i) ≤ K (arrOf st) (sa + na) := fun i hi => bey_f.mp (h2 i hi)
  refine wp_ite (fun z => ?_) (fun z => ?_)
  · have z : na - k = 0 := eq_of_beq z
    refine wpS_pure (h _ B1 e3 (fun _ _ => rfl) fun x y c1 c2 c3 => ?_)
    show K (arrOf st) x ≤ K (arrOf st) y
    by_cases c4 : y < sa + na
    · exact s1 x y c1 c2 c4
    · by_cases c5 : x < sa + na
      · have := g1 (x - sa) (by omega)
        rw [show sa + (x - sa) = x by omega] at this
        exact Int.le_trans this (s2 _ y (by omega) (by omega) (by omega))
      · exact s2 x y (by omega) c2 (by omega)
  rw [beq_iff_eq] at z
  refine wpS_bind (wp_elemI (arr := arrOf st) hx (by omega) fun t1 q1 x1 => ?_)
  refine wpS_bind (wp_gallop (arr := arrOf st) hB.kind hx (by omega) (by omega) s2 fun n2 k1 k2 k3 => ?_)
  dsimp only
  have elast : sa + k + (na - k) - 1 = sa + na - 1 := by omega
  rw [elast] at k2 k3
  have g2 : ∀ i, n2 ≤ i → i < nb → K (arrOf st) (sa + na - 1) ≤ K (arrOf st) (sa + na + i) := fun i c1 c2 => bey_tf.mp (k3 i c1 c2)
  refine wp_ite (fun z2 => ?_) (fun z2 => ?_)
  · have z2 : n2 = 0 := eq_of_beq z2
    refine wpS_pure (h _ B1 e3 (fun _ _ => rfl) fun x y c1 c2 c3 => ?_)
    show K (arrOf st) x ≤ K (arrOf st) y
    by_cases c4 : y < sa + na
    · exact s1 x y c1 c2 c4
    · by_cases c5 : x < sa + na
      · have := g2 (y - (sa + na)) (by omega) (by omega)
        rw [show sa + na + (y - (sa + na)) = y by omega] at this
        exact Int.le_trans (s1 x _ (by omega) (by omega) (by omega)) this
      · exact s2 x y (by omega) c2 (by omega)
  rw [beq_iff_eq] at z2
  have zx : ((arrOf st).extract (sa + k) (sa + na)).size = na - k := by rw [Array.size_extract]; omega
  have zy : ((arrOf st).extract (sa + na) (sa + na + n2)).size = n2 := by rw [Array.size_extract]; omega
  have KX : ∀ m, m < na - k → K ((arrOf st).extract (sa + k) (sa + na)) m = K (arrOf st) (sa + k + m) := fun m hm => ext_K _ (by omega) (by omega)
  have KY : ∀ m, m < n2 → K ((arrOf st).extract (sa + na) (sa + na + n2)) m = K (arrOf st) (sa + na + m) := fun m hm => ext_K _ (by omega) (by omega)
  have sx : Seg (arrOf st) (sa + k) (sa + na) := fun x y c1 c2 c3 => s1 x y (by omega) c2 c3
  have sy : Seg (arrOf st) (sa + na) (sa + na + n2) := fun x y c1 c2 c3 => s2 x y (by omega) c2 (by omega)
  have hf : K ((arrOf st).extract (sa + na) (sa + na + n2)) 0 ≤ K ((arrOf st).extract (sa + k) (sa + na)) 0 := by
    rw [KX 0 (by omega), KY 0 (by omega)]
    exact Int.le_of_lt (bey_ff.mp (h3 k (by omega) (by omega)))
  have hl : ∀ j, j < ((arrOf st).extract (sa + na) (sa + na + n2)).size → K ((arrOf st).extract (sa + na) (sa + na + n2)) j ≤ K ((arrOf st).extract (sa + k) (sa + na)) (((arrOf st).extract (sa + k) (sa + na)).size - 1) := fun j hj => by
    rw [zy] at hj
    rw [zx, KX _ (by omega), KY j hj, show sa + k + (na - k - 1) = sa + na - 1 by omega]
    exact Int.le_of_lt (bey_t.mp (k2 j hj))
  have fin : ∀ M st', Lk (setPending st (((pendingOf st).setIfInBounds i (sa, na + nb, pw)).eraseIdxIfInBounds (i + 1))) st' → Good ((arrOf st).extract (sa + k) (sa + na)) ((arrOf st).extract (sa + na) (sa + na + n2)) M →
      wpS (model prog w) A E s (do
        modify fun s => setArr s (laid (sa + k) M.toList 0 (arrOf s))
        let x ← get
        pure (failedOf x).isNone : StateT SortSt Sem Bool) Q st' := fun M st' l g => by
    obtain ⟨m1, m2, m3⟩ := merge_seg (by omega) hna hnb s1 s2 h1 k1 g1 g2 g
    refine wpS_bind (wpS_modify (wpS_bind (wpS_get ?_)))
    have ea : arrOf st' = arrOf st := l.arr
    have ef : failedOf st' = none := l.failed.trans hB.failed
    have er : (failedOf (setArr st' (laid (sa + k) M.toList 0 (arrOf st')))).isNone = true := by
      show (failedOf st').isNone = true
      rw [ef]
      rfl
    rw [er]
    refine wpS_pure (h _ ⟨?_, l.kind.trans hB.kind, ef⟩ ?_ ?_ ?_)
    · show (laid (sa + k) M.toList 0 (arrOf st')).Perm a₀
      rw [ea]
      exact m1.trans hB.perm
    · show (pendingOf st').toList = _
      rw [l.pend]
      exact e3
    · show ∀ j, _ → K (laid (sa + k) M.toList 0 (arrOf st')) j = _
      rw [ea]
      exact fun j hj => m2 j (by omega)
    · show Seg (laid (sa + k) M.toList 0 (arrOf st')) _ _
      rw [ea]
      exact m3
  refine wp_ite (fun _ => wpS_bind ?_) (fun _ => wpS_bind ?_)
  · exact wp_mergeLo (a := (arrOf st).extract (sa + k) (sa + na)) (b := (arrOf st).extract (sa + na) (sa + na + n2)) hB.kind (ext_int hx _ _) (ext_int hx _ _) (by omega) (by omega) (ext_seg (by omega) sx) (ext_seg (by omega) sy) hf hl fun M st' l g => fin M st' l g
  · exact wp_mergeHi (a := (arrOf st).extract (sa + k) (sa + na)) (b := (arrOf st).extract (sa + na) (sa + na + n2)) hB.kind (ext_int hx _ _) (ext_int hx _ _) (by omega) (by omega) (ext_seg (by omega) sx) (ext_seg (by omega) sy) hf hl fun M st' l g => fin M st' l g
end
end Tim
namespace Tim
open PySem PyProof.Rows
def Runs (xs : Array Keyed) : Nat → List (Nat × Nat × Nat) → Nat → Prop
  | lo, [], hi => lo = hi
  | lo, t :: r, hi => t.1 = lo ∧ 1 ≤ t.2.1 ∧ Seg xs lo (lo + t.2.1) ∧ Runs xs (lo + t.2.1) r hi
theorem Runs.app {xs : Array Keyed} {hi : Nat} {q : List (Nat × Nat × Nat)} : ∀ {p : List (Nat × Nat × Nat)} {lo : Nat}, Runs xs lo (p ++ q) hi ↔ ∃ m, Runs xs lo p m ∧ Runs xs m q hi
  | [], lo => ⟨fun h => ⟨lo, rfl, h⟩, fun ⟨m, h1, h2⟩ => by cases h1; exact h2⟩
  | t :: p, lo => by
    show (_ ∧ _ ∧ _ ∧ Runs xs _ (p ++ q) hi) ↔ ∃ m, (_ ∧ _ ∧ _ ∧ Runs xs _ p m) ∧ _
    rw [Runs.app (p := p)]
    exact ⟨fun ⟨a, b, c, m, d, e⟩ => ⟨m, ⟨a, b, c, d⟩, e⟩, fun ⟨m, ⟨a, b, c, d⟩, e⟩ => ⟨a, b, c, m, d, e⟩⟩
theorem Runs.le {xs : Array Keyed} {hi : Nat} : ∀ {p : List (Nat × Nat × Nat)} {lo : Nat}, Runs xs lo p hi → lo + p.length ≤ hi
  | [], lo, h => by cases h; exact Nat.le_refl _
  | t :: p, lo, ⟨_, h1, _, h2⟩ => by
    have := h2.le
    rw [List.length_cons]
    omega
theorem Runs.congr {xs ys : Array Keyed} {hi : Nat} : ∀ {p : List (Nat × Nat × Nat)} {lo : Nat}, Runs xs lo p hi → (∀ k, lo ≤ k → k < hi → K ys k = K xs k) → Runs ys lo p hi
  | [], lo, h, _ => h
  | t :: p, lo, ⟨h0, h1, h2, h3⟩, e => ⟨h0, h1, h2.congr fun k k1 k2 => e k k1 (by have := h3.le; omega), h3.congr fun k k1 k2 => e k (by omega) k2⟩
theorem Runs.same {xs : Array Keyed} {hi : Nat} : ∀ {p q : List (Nat × Nat × Nat)} {lo : Nat}, Runs xs lo p hi → q.map (fun t => (t.1, t.2.1)) = p.map (fun t => (t.1, t.2.1)) → Runs xs lo q hi
  | [], [], lo, h, _ => h
  | [], _ :: _, lo, h, e => by cases e
  | _ :: _, [], lo, h, e => by cases e
  | t :: p, u :: q, lo, ⟨h0, h1, h2, h3⟩, e => by
    rw [List.map_cons, List.map_cons, List.cons.injEq, Prod.mk.injEq] at e
    obtain ⟨⟨e1, e2⟩, e3⟩ := e
    refine ⟨e1.trans h0, by omega, by rw [e2]; exact h2, ?_⟩
    rw [e2]
    exact h3.same e3
section
variable {prog : Program} {w : World} {A : Around} {E : Value → Shared → Prop} {s : Shared} {a₀ : Array Keyed}
theorem wp_mergeR {st : SortSt} {i hi : Nat} {Q : Bool → SortSt → Prop} (h0 : IntKeys a₀) (hB : TB a₀ st) (hr : Runs (arrOf st) 0 (pendingOf st).toList hi) (hhi : hi ≤ a₀.size) (hi2 : i + 1 < (pendingOf st).size)
    (h : ∀ st', TB a₀ st' → (pendingOf st').size + 1 = (pendingOf st).size → Runs (arrOf st') 0 (pendingOf st').toList hi → (∀ j, hi ≤ j → K (arrOf st') j = K (arrOf st) j) → Q true st') : wpS (model prog w) A E s (mergeAt' i) Q st := by
  have hl : (pendingOf st).toList.length = (pendingOf st).size := Array.length_toList
  obtain ⟨⟨sa, na, pw⟩, ⟨sb, nb, q⟩, p1, p2, e1, el, el2⟩ : ∃ t u p1 p2, (pendingOf st).toList = p1 ++ t :: u :: p2 ∧ p1.length = i ∧ p2.length + i + 2 = (pendingOf st).size := by
    refine ⟨(pendingOf st).toList[i], (pendingOf st).toList[i + 1], (pendingOf st).toList.take i, (pendingOf st).toList.drop (i + 2), ?_, by rw [List.length_take]; omega, by rw [List.length_drop]; omega⟩
    conv => lhs; rw [← List.take_append_drop i (pendingOf st).toList, List.drop_eq_getElem_cons (by omega), List.drop_eq_getElem_cons (by omega)]
  have hr2 := hr
  rw [e1, Runs.app] at hr2
  obtain ⟨m, r1, ⟨q0, q1, q2, t0, t1, t2, r2⟩⟩ := hr2
  dsimp only at q0 q1 q2 t0 t1 t2 r2
  have ll := r2.le
  subst q0 t0
  refine wp_mergeAt h0 hB e1 el rfl q1 t1 (by omega) q2 t2 fun st' B' p' k' s' => ?_
  refine h st' B' ?_ ?_ fun j hj => k' j (by omega)
  · have := congrArg List.length p'
    rw [List.length_append, el, List.length_cons, Array.length_toList] at this
    omega
  · rw [p', Runs.app]
    have r1' := r1.congr (ys := arrOf st') fun k _ hk => k' k (.inl hk)
    refine ⟨_, r1', rfl, by show 1 ≤ _ + _; omega, s', ?_⟩
    have := r2.congr (ys := arrOf st') fun k hk1 hk2 => k' k (.inr (by omega))
    rwa [Nat.add_assoc] at this
theorem TB.setP {st : SortSt} {p : Array (Nat × Nat × Nat)} (h : TB a₀ st) : TB a₀ (setPending st p) := ⟨h.perm, h.kind, h.failed⟩
theorem ite_le (c : Prop) [Decidable c] (n : Nat) : (if c then n - 1 else n) ≤ n := by split <;> omega
theorem runs_push {xs : Array Keyed} {p : Array (Nat × Nat × Nat)} {lo n : Nat} (r : Runs xs 0 p.toList lo) (h : 1 ≤ n) (s : Seg xs lo (lo + n)) : Runs xs 0 (p.push (lo, n, 0)).toList (lo + n) := by
  rw [Array.toList_push, Runs.app]
  exact ⟨lo, r, rfl, h, s, rfl⟩
theorem runs_modify {xs : Array Keyed} {p : Array (Nat × Nat × Nat)} {lo i pw : Nat} (r : Runs xs 0 p.toList lo) : Runs xs 0 (p.modify i fun x => (x.fst, x.2.fst, pw)).toList lo := by
  refine r.same ?_
  apply List.ext_getElem?
  intro j
  rw [List.getElem?_map, List.getElem?_map, Array.getElem?_toList, Array.getElem?_modify, Array.getElem?_toList]
  split
  · cases p[j]? <;> rfl
  · rfl
theorem wp_sortRuns {st : SortSt} {Q : Unit → SortSt → Prop} (h0 : IntKeys a₀) (hB : TB a₀ st) (hp : pendingOf st = #[])
    (h : ∀ st', (arrOf st').Perm a₀ → failedOf st' = none → SortedTo (arrOf st') a₀.size → Q () st') : wpS (model prog w) A E s sortRuns' Q st := by
  rw [sortRuns'_eq]
  refine wpS_bind (wpS_get ?_)
  dsimp only
  rw [hB.size]
  refine wpS_bind (wpS_mono (wpS_forRange
    (I := fun x c st' => ∃ lo, c = (none, lo) ∧ TB a₀ st' ∧ Runs (arrOf st') 0 (pendingOf st').toList lo ∧ lo ≤ a₀.size ∧ min x a₀.size ≤ lo)
    (Q := fun c st' => c = (none, a₀.size) ∧ TB a₀ st' ∧ Runs (arrOf st') 0 (pendingOf st').toList a₀.size) ?step ?fin ⟨0, rfl, hB, by rw [hp]; exact rfl, by omega, by omega⟩) ?post)
  case fin =>
    rintro c st' ⟨lo, rfl, B, r, h1, h2⟩
    obtain rfl : lo = a₀.size := by omega
    exact ⟨rfl, B, r⟩
  case post =>
    rintro c st1 ⟨rfl, B, r⟩
    refine wpS_bind (wpS_mono (wpS_forRange (I := fun x c st' => c = (none, ()) ∧ TB a₀ st' ∧ Runs (arrOf st') 0 (pendingOf st').toList a₀.size ∧ (pendingOf st').size + x ≤ a₀.size)
      (Q := fun c st' => c = (none, ()) ∧ TB a₀ st' ∧ Runs (arrOf st') 0 (pendingOf st').toList a₀.size ∧ (pendingOf st').size ≤ 1) ?step2 ?fin2 ?init2) ?post2)
    case init2 =>
      have := r.le
      rw [Array.length_toList] at this
      exact ⟨rfl, B, r, by omega⟩
    case fin2 =>
      rintro c st' ⟨rfl, B, r, h1⟩
      exact ⟨rfl, B, r, by omega⟩
    case step2 =>
      rintro x c st' _ hx ⟨rfl, B, r, h1⟩
      refine wpS_bind (wpS_get ?_)
      refine wp_ite (fun z => ?_) (fun z => ?_)
      · exact wpS_pure ⟨rfl, B, r, z⟩
      · refine wpS_bind (wp_mergeR h0 B r (Nat.le_refl _) (Nat.lt_of_le_of_lt (Nat.succ_le_succ (ite_le _ _)) (by omega)) fun st2 B2 p2 r2 _ => ?_)
        rw [if_neg (by decide)]
        exact wpS_pure ⟨rfl, B2, r2, by omega⟩
    case post2 =>
      rintro c st' ⟨rfl, B, r, h1⟩
      refine wpS_pure (h _ B.perm B.failed fun i j hij hj => ?_)
      have hl : (pendingOf st').toList.length = (pendingOf st').size := Array.length_toList
      generalize (pendingOf st').toList = p at r hl
      cases p with
      | nil => exact absurd (show 0 = a₀.size from r) (by omega)
      | cons t p =>
        cases p with
        | nil =>
          obtain ⟨_, _, sg, e⟩ := r
          exact sg i j (by omega) hij (by rw [show 0 + t.2.1 = a₀.size from e]; exact hj)
        | cons u p => rw [List.length_cons, List.length_cons] at hl; omega
  case step =>
    rintro x c st1 _ hx ⟨lo, rfl, B1, r1, hlo, hxlo⟩
    dsimp only
    refine wp_ite (fun z => ?_) (fun z => ?_)
    · obtain rfl : lo = a₀.size := by omega
      exact wpS_pure ⟨rfl, B1, r1⟩
    refine wpS_bind (wp_count h0 (by omega) (by omega) B1 fun n st2 B2 k2 n1 n2 s2 => ?_)
    dsimp only
    have r2 : Runs (arrOf st2) 0 (pendingOf st2).toList lo := by
      rw [k2.pend]
      exact r1.congr fun k _ hk => k2.low k hk
    refine wp_ite (fun z2 => ?_) (fun z2 => ?_)
    · refine wpS_bind (wpS_lift (wpAny_rule ⟨rfl, ?_⟩))
      have m1 : n ≤ min (a₀.size - lo) (minRun' a₀.size a₀.size 0) := by omega
      have m2 : min (a₀.size - lo) (minRun' a₀.size a₀.size 0) ≤ a₀.size - lo := by omega
      generalize min (a₀.size - lo) (minRun' a₀.size a₀.size 0) = m at m1 m2 ⊢
      refine wpS_bind (wp_binary h0 (by omega) m1 n1 B2 s2 fun st3 B3 k3 s3 => ?_)
      have r3 : Runs (arrOf st3) 0 (pendingOf st3).toList lo := by
        rw [k3.pend]
        exact r2.congr fun k _ hk => k3.low k hk
      clear r2 s2 B2 k2 k3
      have n1 : 1 ≤ m := by omega
      rw [if_neg (by decide)]
      refine wpS_bind (wpS_get ?_)
      cases hb : (pendingOf st3).back? with
      | none =>
        dsimp only
        exact wpS_bind (wpS_modify (wpS_pure ⟨lo + m, rfl, TB.setP B3, runs_push r3 n1 s3, by omega, by omega⟩))
      | some t =>
        obtain ⟨s1, n1', pw0⟩ := t
        dsimp only
        refine wpS_bind (wpS_mono (wpS_forRange (I := fun _ c st' => c = (none, ()) ∧ TB a₀ st' ∧ Runs (arrOf st') 0 (pendingOf st').toList lo ∧ Seg (arrOf st') lo (lo + m))
          (Q := fun c st' => c = (none, ()) ∧ TB a₀ st' ∧ Runs (arrOf st') 0 (pendingOf st').toList lo ∧ Seg (arrOf st') lo (lo + m)) ?_ (fun _ _ hh => hh) ⟨rfl, B3, r3, s3⟩) ?_)
        · rintro y c st3 _ _ ⟨rfl, B3, r3, s3⟩
          refine wpS_bind (wpS_get ?_)
          by_cases hz : (pendingOf st3).size > 1
          · obtain ⟨⟨o1, o2, o3⟩, ho⟩ : ∃ t, (pendingOf st3)[(pendingOf st3).size - 2]? = some t := ⟨_, getElem?_pos _ _ (by omega)⟩
            rw [if_pos hz, ho]
            dsimp only
            refine wp_ite (fun _ => wpS_pure ⟨rfl, B3, r3, s3⟩) (fun _ => ?_)
            refine wpS_bind (wp_mergeR h0 B3 r3 hlo (by omega) fun st4 B4 _ r4 k4 => ?_)
            rw [if_neg (by decide)]
            exact wpS_pure ⟨rfl, B4, r4, s3.congr fun k hk _ => k4 k hk⟩
          · rw [if_neg hz]
            exact wpS_pure ⟨rfl, B3, r3, s3⟩
        · rintro c st3 ⟨rfl, B3, r3, s3⟩
          dsimp only
          exact wpS_bind (wpS_modify (wpS_bind (wpS_modify (wpS_pure ⟨lo + m, rfl, TB.setP (TB.setP B3), runs_push (runs_modify r3) n1 s3, by omega, by omega⟩))))
    · refine wpS_bind (wpS_get ?_)
      cases hb : (pendingOf st2).back? with
      | none =>
        dsimp only
        exact wpS_bind (wpS_modify (wpS_pure ⟨lo + n, rfl, TB.setP B2, runs_push r2 n1 s2, by omega, by omega⟩))
      | some t =>
        obtain ⟨s1, n1', pw0⟩ := t
        dsimp only
        refine wpS_bind (wpS_mono (wpS_forRange (I := fun _ c st' => c = (none, ()) ∧ TB a₀ st' ∧ Runs (arrOf st') 0 (pendingOf st').toList lo ∧ Seg (arrOf st') lo (lo + n))
          (Q := fun c st' => c = (none, ()) ∧ TB a₀ st' ∧ Runs (arrOf st') 0 (pendingOf st').toList lo ∧ Seg (arrOf st') lo (lo + n)) ?_ (fun _ _ hh => hh) ⟨rfl, B2, r2, s2⟩) ?_)
        · rintro y c st3 _ _ ⟨rfl, B3, r3, s3⟩
          refine wpS_bind (wpS_get ?_)
          by_cases hz : (pendingOf st3).size > 1
          · obtain ⟨⟨o1, o2, o3⟩, ho⟩ : ∃ t, (pendingOf st3)[(pendingOf st3).size - 2]? = some t := ⟨_, getElem?_pos _ _ (by omega)⟩
            rw [if_pos hz, ho]
            dsimp only
            refine wp_ite (fun _ => wpS_pure ⟨rfl, B3, r3, s3⟩) (fun _ => ?_)
            refine wpS_bind (wp_mergeR h0 B3 r3 hlo (by omega) fun st4 B4 _ r4 k4 => ?_)
            rw [if_neg (by decide)]
            exact wpS_pure ⟨rfl, B4, r4, s3.congr fun k hk _ => k4 k hk⟩
          · rw [if_neg hz]
            exact wpS_pure ⟨rfl, B3, r3, s3⟩
        · rintro c st3 ⟨rfl, B3, r3, s3⟩
          dsimp only
          exact wpS_bind (wpS_modify (wpS_bind (wpS_modify (wpS_pure ⟨lo + n, rfl, TB.setP (TB.setP B3), runs_push (runs_modify r3) n1 s3, by omega, by omega⟩))))
end
end Tim
namespace L2.Srt
open PySem PySem.W PyProof.Rows
section
variable {prog : Program} {w : World} {A : Around} {E : Value → Shared → Prop} {s : Shared}
theorem list_sortI {a : Addr} {vs : List Value} {ns : List Int} {n : Nat} {P : PySem.Fin → Shared → Prop} (ho : s.heap.get? a = some (seqObj "list" vs.toArray n)) (hz : vs.length ≤ sizeLine) (ia : IntsAre vs ns)
    (q : ∀ (out : Array Value) (ms : List Int), IntsAre out.toList ms → ms.Perm ns → ms.Pairwise (· ≤ ·) → P (.done (.ret .none)) { s with heap := sortedHeap s.heap a vs out }) :
    wpAny (model prog w) A (Builtin.«list.sort» ⟨[.ref a], []⟩) P E s := by
  rw [list_sort_plain]
  have ha : a < s.heap.objs.size := Heap.lt_size ho
  refine wpAny_bind (listItems_at ho rfl ?_)
  refine wpAny_bind (listUpdate_at ho rfl ?_ (by rw [List.size_toArray]; exact hz) (Nat.zero_le _))
  obtain ⟨e1, ho1⟩ : ∃ e1, (s.heap.update a (Obj.mapSeq fun _ => #[])).get? a = some (seqObj "list" #[] e1) := ⟨_, get?_update_seq ho (fun _ => #[])⟩
  refine wpAny_bind (seqEpoch_at ho1 rfl ?_)
  refine wpAny_bind (wpAny_newTuple ?_ hz)
  refine wpAny_bind (wpAny_newList ?_ (Nat.zero_le _))
  refine wpAny_holding ?_
  have ho6 : (midHeap s.heap a vs).get? a = some (seqObj "list" #[] e1) := by
    unfold midHeap
    rw [Heap.get?_push_ne _ _ _ (by rw [size_push', Heap.size_update]; exact Nat.ne_of_lt (Nat.lt_succ_of_lt ha)), Heap.get?_push_ne _ _ _ (by rw [Heap.size_update]; exact Nat.ne_of_lt ha)]
    exact ho1
  show wpAny (model prog w) A _ P E { s with heap := midHeap s.heap a vs }
  dsimp only
  have ends : ∀ u : SortSt, (arrOf u).Perm (pairsOf vs) → SortedTo (arrOf u) (pairsOf vs).size → P (.done (.ret .none)) { s with heap := sortedHeap s.heap a vs ((arrOf u).map (·.2)) } := fun u pu su =>
    let ⟨ms, m1, m2, m3⟩ := sorted_out ia pu su
    q _ ms m1 m2 m3
  have big : ∀ u : SortSt, (arrOf u).Perm (pairsOf vs) → ((arrOf u).map (·.2)).size ≤ sizeLine := fun u pu => by
    rw [Array.size_map, pu.size_eq, pairsOf_size]
    exact hz
  by_cases h2 : vs.toArray.size < 2
  · rw [if_pos h2, if_pos h2]
    refine wpAny_bind (wpAny_pure ?_)
    rw [StateT.run_pure]
    refine wpAny_bind (wpAny_pure ?_)
    dsimp only
    have p0 : (arrOf (SortSt.mk' general' (vs.toArray.zip vs.toArray) #[] 7 none)).Perm (pairsOf vs) := Array.Perm.refl _
    refine wpAny_bind (seqEpoch_at ho6 rfl ?_)
    refine wpAny_bind (listUpdate_at ho6 rfl ?_ (Nat.zero_le _) (Nat.le_trans (big _ p0) (by omega)))
    simp only [bne_self_eq_false, Bool.false_eq_true, if_false]
    refine wpAny_pure (ends _ p0 fun i j hij hj => ?_)
    rw [pairsOf_size] at hj
    rw [List.size_toArray] at h2
    have : i = j := by omega
    subst this
    exact Int.le_refl _
  · rw [if_neg h2, if_neg h2]
    rw [List.size_toArray] at h2
    obtain ⟨v1, v2, rest, rfl⟩ : ∃ v1 v2 rest, vs = v1 :: v2 :: rest := by
      cases vs with
      | nil => simp at h2
      | cons v1 t =>
        cases t with
        | nil => simp at h2
        | cons v2 rest => exact ⟨v1, v2, rest, rfl⟩
    rw [keyKind_ints ia]
    refine wpAny_bind (wpAny_pure ?_)
    refine wpAny_bind (wpAny_mono (Tim.wp_sortRuns (a₀ := pairsOf (v1 :: v2 :: rest)) (st := SortSt.mk' oneType' ((v1 :: v2 :: rest).toArray.zip (v1 :: v2 :: rest).toArray) #[] 7 none)
      (Q := fun _ u => (arrOf u).Perm (pairsOf (v1 :: v2 :: rest)) ∧ failedOf u = none ∧ SortedTo (arrOf u) (pairsOf (v1 :: v2 :: rest)).size) ia.intKeys ⟨Array.Perm.refl _, rfl, rfl⟩ rfl fun u b1 b2 b3 => ⟨b1, b2, b3⟩) ?_ fun _ _ e => e)
    rintro ⟨⟨⟩, u⟩ s' ⟨rfl, pu, fu, su⟩
    dsimp only
    refine wpAny_bind (seqEpoch_at ho6 rfl ?_)
    refine wpAny_bind (listUpdate_at ho6 rfl ?_ (Nat.zero_le _) (Nat.le_trans (big _ pu) (by omega)))
    rw [fu]
    simp only [bne_self_eq_false, Bool.false_eq_true, if_false]
    exact wpAny_pure (ends u pu su)
theorem sortedI {l : Addr} {vs : List Value} {ns : List Int} {Q : Value → Shared → Prop} (hl : s.heap.IsList l vs.toArray) (hz : vs.length ≤ sizeLine) (ia : IntsAre vs ns)
    (q : ∀ (out : Array Value) (ms : List Int), IntsAre out.toList ms → ms.Perm ns → ms.Pairwise (· ≤ ·) → Q (.ref (s.heap.objs.size + 1)) { s with heap := sortedAll s.heap vs out }) :
    wpAny (model prog w) A (call (.builtin "sorted") [.ref l]) Q E s := by
  refine Calls.call_function_entry kind_sorted plain_sorted entry_sorted (args_sorted1 _) ?_
  unfold Builtin.«sorted»
  refine wpAny_bind (m := checkCount "sorted" 1 1 _) (wpAny_pure ?_)
  refine wpAny_bind (collect_list hl ?_ hz)
  refine wpAny_bind (wpAny_newList ?_ hz)
  have hsz : ((s.heap.push (seqObj "list" #[] 0)).update s.heap.objs.size (Obj.mapSeq (· ++ vs.toArray))).objs.size = s.heap.objs.size + 1 := by
    rw [Heap.size_update, size_push']
  have hoL : (preHeap s.heap vs).get? (s.heap.objs.size + 1) = some (seqObj "list" vs.toArray 0) := by
    unfold preHeap
    rw [← hsz]; exact Heap.get?_push_size _ rfl
  show wpAny _ _ _ _ _ { s with heap := preHeap s.heap vs }
  rw [hsz]
  refine wpAny_bind (wpAny_holding (wpAny_call_entry slot_list_sort ⟨_, hoL, rfl⟩ entry_list_sort (list_sortI (s := { s with heap := preHeap s.heap vs }) hoL hz ia fun out ms m1 m2 m3 => ⟨_, rfl, ?_⟩) (args_list_sort _)))
  exact wpAny_pure ⟨_, rfl, q out ms m1 m2 m3⟩
end
end L2.Srt
namespace L2
open PySem PySem.Spec PyProof.Rows Srt
section
variable {X : Cx}
theorem call_sortedI : CallR X (.builtin "sorted") (fun xs H Q => ∃ p ns, xs = [.ref p] ∧ SqL X.K H p (ns.map V.int) ∧ ns.length ≤ 100000 ∧
    ∀ (l : Addr) (ms : List Int), ms.Perm ns → ms.Pairwise (· ≤ ·) → H l = none → Q (.ref l) (upd H l (.lst (ms.map V.int)))) := by
  intro pins s σ H xs us Q I r h
  obtain ⟨p, ns, rfl, hq, hn, q⟩ := h
  obtain ⟨u, rfl, rx⟩ := vals1 r
  cases rx
  have sz := sizeLine_eq
  obtain ⟨its, r', pl, _⟩ := I.list hq
  have hlen := r'.length
  rw [List.length_map] at hlen
  refine sortedI pl.isList (by omega) (ints_of r') fun out ms m1 m2 m3 => ?_
  obtain ⟨e, he⟩ := sortedAll_at s.heap its out
  have hm : (ms.map V.int).length ≤ sizeLine := by rw [List.length_map, m2.length_eq]; omega
  exact ⟨.ref (s.heap.objs.size + 1), _, I.laid (t' := s.toks) (fun b o e => sortedAll_old e) (Nat.le_succ _) (show ObjOk X.prog X.w _ _ _ (.lst (ms.map V.int)) from ⟨hm, out.toList, e, ints_vals m1, by simpa using he⟩), rfl, q _ _ m2 m3 (I.hok.fresh (Nat.le_succ _))⟩
end
end L2
namespace L2.RvR
open PySem PySem.Spec PySem.Calls PyProof.Rows
section
variable {prog : Program} {w : World} {A : Around} {E : Value → Shared → Prop} {s : Shared}
theorem sub_ri_reversed : isSubtype (.type "range_iterator") (.type "reversed") = pure false := by rw [isSubtype_type]; kernel_rfl
def downObj (n : Nat) : Obj := { cls := .type "range_iterator", data := .fields #[rawInt ((n : Int) - 1), rawInt (n : Int), rawInt (-1)] }
theorem small_down {j : Int} (h0 : 0 ≤ j) (h1 : j < 2 ^ 62) : (Builtin.Range.rangeFitsLong 0 && Builtin.Range.rangeFitsLong j && Builtin.Range.rangeFitsLong 1 && Builtin.Range.rangeFitsLong (-1) && Builtin.Range.rangeFitsLong (0 - 1) && Builtin.Range.rangeFitsLong j) = true := by
  unfold Builtin.Range.rangeFitsLong
  have e1 : decide (-(2 : Int) ^ 63 ≤ j) = true := decide_eq_true (by omega)
  have e2 : decide (j < (2 : Int) ^ 63) = true := decide_eq_true (by omega)
  rw [e1, e2]
  decide
theorem call_down {r : Addr} {j : Int} {t u v : Tok} {Q : Value → Shared → Prop} (hr : IsRange s.heap r 0 j 1 t u v) (h0 : 0 ≤ j) (h1 : j < 2 ^ 62)
    (q : Q (.ref s.heap.objs.size) { s with heap := s.heap.push (downObj j.toNat) }) : wpAny (model prog w) A (call (.builtin "range.__reversed__") [.ref r]) Q E s := by
  refine wpAny_call_entry F.slot_range_reversed ⟨_, hr, rfl⟩ F.entry_range_reversed ?_ (F.args_range_reversed_1 _)
  unfold Builtin.«range.__reversed__»
  refine wpAny_bind (wpAny_of_eq (a := Value.ref r) rfl ?_)
  have rf : ∀ {R : Int × Int × Int → Shared → Prop} {A' : Around} {E' : Value → Shared → Prop}, R (0, j, 1) s → wpAny (model prog w) A' (Builtin.Range.rangeFields (.ref r)) R E' s := fun {R A' E'} h => by
    unfold Builtin.Range.rangeFields
    refine wpAny_bind (wpAny_field hr rfl (x := .int 0 t) rfl ?_)
    refine wpAny_bind (wpAny_of_eq (a := some 0) rfl ?_)
    refine wpAny_bind (wpAny_field hr rfl (x := .int j u) rfl ?_)
    refine wpAny_bind (wpAny_of_eq (a := some j) rfl ?_)
    refine wpAny_bind (wpAny_field hr rfl (x := .int 1 v) rfl ?_)
    refine wpAny_bind (wpAny_of_eq (a := some 1) rfl ?_)
    exact wpAny_pure h
  refine wpAny_bind (rf ?_)
  dsimp only
  have en : Builtin.Range.rangeSize 0 j 1 = j := by rw [rangeSize_one]; split <;> omega
  rw [en, small_down h0 h1]
  have ej : ((j.toNat : Nat) : Int) = j := by omega
  have eo : (0 : Int) + (j - 1) * 1 = j - 1 := by omega
  rw [if_neg (by decide), if_pos rfl, eo]
  unfold downObj at q
  rw [ej] at q
  exact wpAny_bind (wpAny_newObj_type (wpAny_pure ⟨_, rfl, q⟩))
theorem code_new {r : Addr} {j : Int} {t u v : Tok} {Q₁ : Value → Shared → Prop} (hr : IsRange s.heap r 0 j 1 t u v) (h0 : 0 ≤ j) (h1 : j < 2 ^ 62)
    (q : Q₁ (.ref s.heap.objs.size) { s with heap := s.heap.push (downObj j.toNat) }) :
    codeAny (model prog w) A (.call (.builtin "reversed.__new__") ⟨[.type "reversed", .ref r], []⟩) (wants Q₁ E) s := by
  have hT : s.TypeIs (.ref r) "range" := ⟨_, hr, rfl⟩
  refine codeAny_of_tree ?_
  refine (show wpAny _ A.in1 (checkBuiltinCall "reversed.__new__" ⟨[.type "reversed", .ref r], []⟩ >>= fun _ => again (.builtin "reversed.__new__" ⟨[.type "reversed", .ref r], []⟩)) _ _ s from ?_)
  refine wpAny_bind (wpAny_of_eq (F.newCall_reversed_1 _) (wpAny_pure ⟨plainId_quiet F.plain_reversed_new _, codeAny_builtin F.entry_reversed_new ?_⟩))
  rw [Around.under_plainId F.plain_reversed_new _]
  unfold Builtin.«reversed.__new__»
  refine wpAny_bind (wpAny_of_eq (newClass_reversed _) ?_)
  try dsimp only
  refine wpAny_bind (wpAny_of_eq (a := ()) (by first | rfl | kernel_rfl) ?_)
  refine wpAny_bind (wpAny_of_eq (a := ()) (by first | rfl | kernel_rfl) ?_)
  try dsimp only
  refine wpAny_bind (wpAny_specialOf hT F.slot_range_reversed.lookup ?_)
  try dsimp only
  refine wpAny_bind (wpAny_of_eq (F.slot_range_reversed.bind _) ?_)
  try dsimp only
  have nn : ¬ ((Value.builtin "range.__reversed__" == Value.none) = true) := Bool.false_ne_true
  first
  | rw [if_neg nn]
  | (show wpAny _ _ (if (Value.builtin "range.__reversed__" == Value.none) = true then _ else _) _ _ _; rw [if_neg nn])
  refine wpAny_bind (wpAny_rule ?_)
  refine wpAny_bind (m := runValue (.call (.builtin "range.__reversed__") ⟨[.ref r], []⟩)) (show wpAny _ _ (call (.builtin "range.__reversed__") [.ref r]) _ _ _ from call_down hr h0 h1 ?_)
  first
  | exact wpAny_pure q
  | exact wpAny_bind (wpAny_pure (wpAny_pure q))
theorem call_rvr {r : Addr} {j : Int} {t u v : Tok} {Q : Value → Shared → Prop} (hr : IsRange s.heap r 0 j 1 t u v) (h0 : 0 ≤ j) (h1 : j < 2 ^ 62)
    (q : Q (.ref s.heap.objs.size) { s with heap := s.heap.push (downObj j.toNat) }) : wpAny (model prog w) A (call (.type "reversed") [.ref r]) Q E s := by
  refine callType_other (U := "range_iterator") (Q₁ := fun obj s₁ => obj = .ref s.heap.objs.size ∧ s₁ = { s with heap := s.heap.push (downObj j.toNat) }) (by decide +kernel) F.create_reversed ⟨_, _, F.mro_reversed⟩ F.made_reversed sub_ri_reversed (F.typeCall_reversed_1 _) (code_new hr h0 h1 ⟨rfl, rfl⟩) ?_
  rintro obj s₁ ⟨rfl, rfl⟩
  exact ⟨⟨_, Heap.get?_push_size _ rfl, rfl⟩, q⟩
end
end L2.RvR
namespace L2
open PySem PySem.Spec PyProof.Rows RvR
def Itd (n : Nat) : It := ⟨fun i _ => i < n, fun i H x H' => H' = H ∧ x = .int ((n : Int) - 1 - (i : Int)), fun i _ => n ≤ i⟩
theorem turn_down {P : Program} {w : World} {K : PySem.W.Frag} {tg : Expr} (it : Addr) (n : Nat) : Turn P w K tg (Itd n) [it] it (fun i h => IsRangeIter h it ((n : Int) - 1 + (i : Nat) * (-1)) ((n : Int) - (i : Nat)) (-1)) where
  mem := by simp
  obj := fun i h st b hb => by
    have e : b = it := by simpa using hb
    subst e
    exact ⟨_, st, fun v z => nomatch (show Data.fields _ = Data.cell v from z)⟩
  keep := fun i h h' st k => k it (by simp) _ st
  item := by
    intro X hP hw hK hc i pins s σ H E I hf st hg
    subst hP hw hK
    obtain ⟨f0, f1, f2, f3, f4, f5⟩ := hf it (by simp)
    refine (Walks.range (prog := X.prog) (w := X.w) (I.ok.hd hc) it ((n : Int) - 1) (-1) n).item i s _ _ hg st fun v h' tk hv st' kk => ?_
    obtain ⟨t, rfl⟩ := hv
    have I1 : Inv X pins σ H { s with heap := h', toks := tk } := I.turned (fun b o hb e => kk b o (by simpa using hb) e) f0 f1 f3 f4 f5
    refine ⟨_, rfl, go_of (s := { s with heap := h', toks := tk }) (n := "range_iterator") st' rfl rfl (by decide) ⟨.int ((n : Int) - 1 - (i : Int)), H, I1, ⟨t, ?_⟩, ⟨rfl, rfl⟩, st', fun b hb => (hf b hb).1⟩⟩
    congr 1
    omega
  done := by
    intro X hP hw hK hc i pins s σ H E I hf st hg
    subst hP hw hK
    obtain ⟨f0, f1, f2, f3, f4, f5⟩ := hf it (by simp)
    have hg : n ≤ i := hg
    exact wpAny_pyNext_range_end (I.ok.hd hc) st (by omega) fun h' eb => ⟨rfl, I.turned (t' := s.toks) (fun b o hb e => eb b o hb e) f0 f1 f3 f4 f5⟩
  self := fun _ _ _ _ _ st h => wpAny_pyIter_rangeiter st h
def iRevR (ta : TA) : TI := fun σ H R => ta σ H fun vs H1 => ∃ a j, vs = [.ref a] ∧ H1 a = some (.rng 0 j) ∧ 0 ≤ j ∧ j < 2 ^ 62 ∧ R (Itd j.toNat) H1
section
variable {X : Cx} {tg : Expr}
theorem pi_revR {a : Expr} {ta : TA} {p pos : Pos} (hg : Gl X "reversed") (hm : X.mg "reversed" = none) (ha : PA X [a] ta) (hs : starEach [a] X.env = [(false, eval a X.env)] := by rfl) : PI X tg (.Call (.Name "reversed" p) [a] [] pos) (iRevR ta) := by
  intro pins s σ H R I h
  refine Call_ (ld_blt I hg hm b_reversed (PyProof.Rows.callWith_type1 (thn (ha pos pins s σ H _ I h) fun us s1 ⟨vs, H1, I1, r1, q1⟩ => ?_) hs rfl))
  obtain ⟨l, j, e, hq, h0, h1, q⟩ := q1
  subst e
  cases r1 with
  | cons r rr =>
    cases rr
    cases (show _ = Value.ref l from r)
    obtain ⟨t, u, v, e⟩ := (show ObjOk X.prog X.w H1 s1.heap l (.rng 0 j) from I1.hok l _ hq)
    refine call_rvr (show IsRange s1.heap l 0 j 1 t u v from e) h0 h1 ?_
    have st : IsRangeIter (s1.heap.push (downObj j.toNat)) s1.heap.objs.size (((j.toNat : Nat) : Int) - 1 + ((0 : Nat) : Int) * (-1)) (((j.toNat : Nat) : Int) - ((0 : Nat) : Int)) (-1) := by
      rw [show (((j.toNat : Nat) : Int) - 1 + ((0 : Nat) : Int) * (-1)) = ((j.toNat : Nat) : Int) - 1 by omega, show ((j.toNat : Nat) : Int) - ((0 : Nat) : Int) = ((j.toNat : Nat) : Int) by omega]
      exact Heap.get?_push_size _ rfl
    refine wpAny_pyIter_rangeiter st ?_
    refine ⟨s1.heap.objs.size, [s1.heap.objs.size], _, _, H1, rfl, I1.kept (t' := s1.toks) fun b o e => Heap.get?_push_of_some _ e, turn_down _ j.toNat, st, fun b hb => ?_, q⟩
    have e : b = s1.heap.objs.size := by simpa using hb
    subst e
    exact I1.fpOk (Nat.le_refl _) (I1.hok.fresh (Nat.le_refl _))
theorem call_range2 : CallR X (.type "range") (fun xs H Q => ∃ i j : Int, xs = [.int i, .int j] ∧ ∀ l, H l = none → Q (.ref l) (upd H l (.rng i j))) := by
  intro pins s σ H xs us Q I r h
  obtain ⟨i, j, rfl, q⟩ := h
  obtain ⟨u, v, rfl, rx, ry⟩ := vals2 r
  obtain ⟨t, rfl⟩ := rx
  obtain ⟨t', rfl⟩ := ry
  refine call_range_2 ?_
  exact ⟨.ref s.heap.objs.size, _, I.laid (fun b o e => Heap.get?_push_of_some _ e) (Nat.le_refl _) (show ObjOk X.prog X.w _ _ _ (.rng i j) from ⟨_, _, _, Heap.get?_push_size _ rfl⟩), rfl, q _ (I.hok.fresh (Nat.le_refl _))⟩
theorem call_list_rng2 (hc : X.calm = true) : CallR X (.type "list") (fun xs H Q => ∃ (p : Addr) (i j : Int), xs = [.ref p] ∧ H p = some (.rng i j) ∧ 0 ≤ i ∧ i ≤ j ∧ j ≤ 1000000 ∧ ∀ l, H l = none → Q (.ref l) (upd H l (.lst ((List.range (j - i).toNat).map fun k => V.int (i + (k : Nat)))))) := by
  intro pins s σ H xs us Q I r h
  obtain ⟨p, i, j, rfl, hp, h0, hij, h1, q⟩ := h
  obtain ⟨u, rfl, rx⟩ := vals1 r
  cases rx
  have sz := sizeLine_eq
  obtain ⟨t, u, v, e⟩ := (show ObjOk X.prog X.w H s.heap p (.rng i j) from I.hok p _ hp)
  refine call_list_range (n := (j - i).toNat) (I.ok.hd hc) (show IsRange s.heap p i j 1 t u v from e) (small_one (by omega) (by omega) (by omega) (by omega)) (by rw [rangeSize_one]; split <;> omega) (by omega) fun h' tk acc c' hk hS' hacc => ?_
  have rv : Vals ((List.range (j - i).toNat).map fun k => V.int (i + (k : Nat))) acc.toList := by
    refine vals_of_get ?_ fun m x hx => ?_
    · rw [List.length_map, List.length_range, Array.length_toList, hacc.1]
    · rw [List.getElem?_map] at hx
      obtain ⟨k, hk', rfl⟩ := Option.map_eq_some_iff.mp hx
      obtain ⟨hlt, rfl⟩ := List.getElem?_eq_some_iff.mp hk'
      rw [List.length_range] at hlt
      have hi : m < acc.size := by rw [hacc.1]; exact hlt
      obtain ⟨t', ht'⟩ := hacc.2 m acc[m] (by rw [Array.getElem?_eq_getElem hi])
      refine ⟨acc[m], by rw [Array.getElem?_toList, Array.getElem?_eq_getElem hi], t', ?_⟩
      rw [ht', List.getElem_range]
      congr 1
      omega
  refine ⟨.ref s.heap.objs.size, _, I.laid hk (Nat.le_refl _) (show ObjOk X.prog X.w _ h' _ (.lst ((List.range (j - i).toNat).map fun k => V.int (i + (k : Nat)))) from ⟨by rw [List.length_map, List.length_range]; omega, _, c', rv, by simpa using hS'⟩), rfl, q _ (I.hok.fresh (Nat.le_refl _))⟩
end
theorem forW_down {n : Nat} {g : TG} {tb : TS} {D : Ends} {σ : St} {H : Hp} (Pv : Nat → St → Hp → Prop) (h0 : Pv 0 σ H)
    (hs : ∀ i σ H, i < n → Pv i σ H → g (.int ((n : Int) - 1 - (i : Int))) σ H fun σ2 H2 => tb { D with nx := Pv (i + 1), ct := Pv (i + 1), bk := D.nx } σ2 H2) (hd : ∀ σ H, Pv n σ H → D.nx σ H) : ForW g tb D (Itd n) σ H := by
  refine ⟨fun i m σ H => m = n - i ∧ i ≤ n ∧ Pv i σ H, ⟨n, by simp, Nat.zero_le _, h0⟩, ?_⟩
  rintro i m σ H ⟨rfl, hi, p⟩
  by_cases hlt : i < n
  · refine .inr ⟨hlt, Pv (i + 1), fun σ' H' p' => ⟨n - (i + 1), by omega, rfl, hlt, p'⟩, fun x H' y => ?_⟩
    obtain ⟨rfl, rfl⟩ := y
    exact hs i σ _ hlt p
  · obtain rfl : i = n := by omega
    exact .inl ⟨Nat.le_refl _, hd σ H p⟩
end L2
namespace L2
open PySem PySem.Spec PyProof.Rows
theorem lc_tupB {K : PySem.W.Frag} {a : Addr} {xs : List V} {fr : L2.St} {tc : TT} {te : TE} {D : Addr} {H1 : Hp} {Q : Hp → Prop} (P : Nat → List V → Hp → Prop) (mono : ∀ i ys H H', (∀ b o, b ≠ D → H b = some o → H' b = some o) → P i ys H → P i ys H') (hS : SqT K H1 a xs) (hn : xs.length < sizeLine) (hD : H1 D = none) (h0 : P 0 [] H1)
    (step : ∀ i x ys H (G : Hp → Prop) (K' : V → Hp → Prop), xs[i]? = some x → P i ys H → ys.length ≤ i → Same H1 H → H D = some (.lst ys) → (∀ H3, Same H H3 → P (i + 1) ys H3 → G H3) → (∀ y H4, Same H H4 → P (i + 1) (ys ++ [y]) H4 → K' y H4) → tc ([some x] ++ fr) H fun b H3 => if b = true then te ([some x] ++ fr) H3 K' else G H3)
    (done : ∀ ys H, P xs.length ys H → ys.length ≤ xs.length → Same H1 H → H D = some (.lst ys) → Q H) : LC 1 fr (gName 0) tc te (Itt K a) D H1 Q := by
  refine ⟨fun i m H => m = xs.length - i ∧ i ≤ xs.length ∧ ∃ ys, H D = some (.lst ys) ∧ P i ys H ∧ ys.length ≤ i ∧ Same H1 H, ⟨xs.length, by simp, Nat.zero_le _, [], upd_same, mono _ _ _ _ (fun b o hb h => by rw [upd_ne hb]; exact h) h0, Nat.le_refl _, same_new hD _⟩, ?_⟩
  rintro i m H ⟨rfl, hi, ys, hys, hP, hl, hs⟩
  by_cases hlt : i < xs.length
  · have hx : xs[i]? = some xs[i] := List.getElem?_eq_getElem hlt
    refine .inr ⟨⟨xs, _, hs.tup hS, hx⟩, fun τ x H' hτ hy => ?_⟩
    obtain ⟨e1, e2⟩ := hy
    subst e1
    obtain rfl : x = xs[i] := Option.some.inj ((e2 xs (hs.tup hS)).symm.trans hx)
    obtain ⟨c, rfl⟩ : ∃ c, τ = [c] := by
      match τ, hτ with
      | [c], _ => exact ⟨c, rfl⟩
    refine ⟨⟨[some xs[i]], rfl, rfl⟩, step i _ ys H' _ _ hx hP hl hs hys (fun H3 q1 q2 => ?_) (fun y H4 q1 q2 => ?_)⟩
    · exact ⟨xs.length - (i + 1), by omega, rfl, hlt, ys, q1 _ _ hys, q2, Nat.le_succ_of_le hl, hs.trans q1⟩
    · refine ⟨ys, q1 _ _ hys, by omega, xs.length - (i + 1), by omega, rfl, hlt, ys ++ [y], upd_same, mono _ _ _ _ (fun b o hb h => by rw [upd_ne hb]; exact h) q2, ?_, (hs.trans q1).upd hD _⟩
      rw [List.length_append, List.length_singleton]
      omega
  · obtain rfl : i = xs.length := by omega
    exact .inl ⟨⟨xs, hs.tup hS, Nat.le_refl _⟩, done ys H hP hl hs hys⟩
end L2
namespace Pc
theorem below_perm (ar : List Nat) : ∀ (k p : Nat), p + k = ar.length → ((List.range' p k).flatMap (belowN ar) ++ starts p (ar.drop p)).Perm (List.range' p k)
  | 0, p, h => by
    rw [List.drop_of_length_le (by omega)]
    exact List.Perm.refl _
  | k + 1, p, h => by
    have ih := below_perm ar k (p + 1) (by omega)
    rw [List.range'_succ, List.flatMap_cons, starts_at ar p (by omega)]
    unfold belowN
    generalize starts (p + 1) (ar.drop (p + 1)) = S at ih ⊢
    generalize ar.getD p 0 = a
    show (S.take a ++ (List.range' (p + 1) k).flatMap (belowN ar) ++ p :: S.drop a).Perm _
    generalize (List.range' (p + 1) k).flatMap (belowN ar) = F at ih ⊢
    refine List.Perm.trans List.perm_middle (List.Perm.cons p ?_)
    refine List.Perm.trans ?_ ih
    conv => rhs; rw [← List.take_append_drop a S]
    rw [← List.append_assoc]
    exact List.Perm.append_right _ List.perm_append_comm
theorem below_all (ar : List Nat) (h : pend 1 ar = some 0) : ((List.range ar.length).flatMap (belowN ar)).Perm (List.range' 1 (ar.length - 1)) := by
  have e := below_perm ar ar.length 0 (Nat.zero_add _)
  rw [List.drop_zero, ← List.range_eq_range'] at e
  have hl := starts_len ar 1 0 h
  have hne : ar ≠ [] := by rintro rfl; cases h
  obtain ⟨t, ht⟩ := starts_head ar 0 hne
  rw [ht, List.length_cons] at hl
  have : t = [] := List.eq_nil_of_length_eq_zero (by omega)
  rw [ht, this] at e
  have hp : 0 < ar.length := List.length_pos_iff.mpr hne
  have e2 : List.range ar.length = 0 :: List.range' 1 (ar.length - 1) := by
    rw [List.range_eq_range', show ar.length = (ar.length - 1) + 1 by omega, List.range'_succ]
    rfl
  conv at e => rhs; rw [e2]
  exact (List.perm_append_comm.trans e).cons_inv
theorem sorted_one {xs ys : List Int} (h1 : xs.Pairwise (· ≤ ·)) (h2 : ys.Pairwise (· ≤ ·)) (p : xs.Perm ys) : xs = ys :=
  List.Perm.eq_of_pairwise (fun a b _ _ h g => Int.le_antisymm h g) h1 h2 p
theorem range_sorted (n : Nat) : ((List.range n).map fun i => 1 + ((i : Nat) : Int)).Pairwise (· ≤ ·) := by
  rw [List.pairwise_map]
  exact List.Pairwise.imp (fun h => by omega) List.pairwise_lt_range
theorem below_sorted {ar : List Nat} (h : pend 1 ar = some 0) {ms : List Int} (hs : ms.Pairwise (· ≤ ·)) (hp : ms.Perm (((List.range ar.length).flatMap (belowN ar)).map fun q => ((q : Nat) : Int))) : ms = (List.range (ar.length - 1)).map fun i => 1 + ((i : Nat) : Int) := by
  refine sorted_one hs (range_sorted _) (hp.trans ?_)
  have := (below_all ar h).map (fun q => ((q : Nat) : Int))
  refine this.trans ?_
  rw [List.range'_eq_map_range, List.map_map]
  have : (fun q => ((q : Nat) : Int)) ∘ (fun x => 1 + x) = fun i => 1 + ((i : Nat) : Int) := by
    funext i
    show ((1 + i : Nat) : Int) = _
    omega
  rw [this]
end Pc
namespace Pc
open PySem PySem.Spec L2 PyProof.Rows
abbrev plV (q : Nat) : V := V.int ((q : Nat) : Int)
def Lists (H : Hp) (rs : List Addr) (f : Nat → List Nat) : Prop := ∀ q, q < rs.length → H (rs.getD q 0) = some (.lst ((f q).map plV))
theorem getD_mem {rs : List Addr} {q : Nat} (h : q < rs.length) : rs.getD q 0 ∈ rs := by
  rw [List.getD_eq_getElem?_getD, List.getElem?_eq_getElem h]
  exact List.getElem_mem h
theorem Lists.congr {H : Hp} {rs : List Addr} {f g : Nat → List Nat} (h : Lists H rs f) (e : ∀ q, q < rs.length → g q = f q) : Lists H rs g := fun q hq => by
  rw [e q hq]
  exact h q hq
theorem Lists.same {H H' : Hp} {rs : List Addr} {f : Nat → List Nat} (h : Lists H rs f) (s : Same H H') : Lists H' rs f := fun q hq => s _ _ (h q hq)
theorem Lists.other {H : Hp} {rs : List Addr} {f : Nat → List Nat} {b : Addr} {o : HO} (h : Lists H rs f) (hb : b ∉ rs) : Lists (upd H b o) rs f := fun q hq => by
  rw [upd_ne fun e => hb (by rw [← e]; exact getD_mem hq)]
  exact h q hq
theorem Lists.put {H : Hp} {rs : List Addr} {f : Nat → List Nat} {p : Nat} {xs : List Nat} (h : Lists H rs f) (nd : rs.Nodup) (hp : p < rs.length) : Lists (upd H (rs.getD p 0) (.lst (xs.map plV))) rs (fun q => if q = p then xs else f q) := fun q hq => by
  show upd H (rs.getD p 0) (.lst (xs.map plV)) (rs.getD q 0) = some (.lst ((if q = p then xs else f q).map plV))
  by_cases e : q = p
  · subst e
    rw [if_pos rfl, upd_same]
  · rw [if_neg e, upd_ne]
    · exact h q hq
    · intro z
      apply e
      rw [List.getD_eq_getElem?_getD, List.getD_eq_getElem?_getD, List.getElem?_eq_getElem hq, List.getElem?_eq_getElem hp] at z
      exact (List.getElem_inj nd).mp z
theorem Lists.out {H : Hp} {rs : List Addr} {f : Nat → List Nat} {b : Addr} (h : Lists H rs f) (hb : H b = none) : b ∉ rs := fun m => by
  obtain ⟨q, hq, e⟩ := List.getElem_of_mem m
  have := h q hq
  rw [List.getD_eq_getElem?_getD, List.getElem?_eq_getElem hq, e] at this
  rw [show (some b).getD 0 = b from rfl, hb] at this
  cases this
theorem Lists.snoc {H : Hp} {rs : List Addr} {r : Addr} (h : Lists H rs fun _ => []) (hr : H r = none) : Lists (upd H r (.lst [])) (rs ++ [r]) fun _ => [] := fun q hq => by
  rw [List.length_append, List.length_singleton] at hq
  by_cases e : q < rs.length
  · rw [List.getD_eq_getElem?_getD, List.getElem?_append_left e, ← List.getD_eq_getElem?_getD]
    exact (h.other (h.out hr)) q e
  · have e : q = rs.length := by omega
    subst e
    rw [List.getD_eq_getElem?_getD, List.getElem?_append_right (Nat.le_refl _), Nat.sub_self]
    exact upd_same
theorem good_subI {n : Nat} {z : Str} {is : List Int} (hn : n ≤ 90) (hz : nameB z = true) (hl : is.length = n) (hi : ∀ i ∈ is, i.natAbs < 10 ^ 60) :
    goodT (List.replicate n (.str (Str.ofString "sub")) ++ [.str z] ++ is.map V.int) := by
  refine ⟨fun v hv => ?_, ?_, by rw [List.length_append, List.length_append, List.length_replicate, List.length_map, hl]; show n + 1 + n ≤ 200; omega⟩
  · rcases List.mem_append.mp hv with h | h
    · rcases List.mem_append.mp h with h | h
      · rw [(List.mem_replicate.mp h).2]; exact ok_sub
      · rw [List.mem_singleton.mp h]; exact .inl hz
    · obtain ⟨y, hy, rfl⟩ := List.mem_map.mp h
      exact hi y hy
  · show pend 1 (List.map arV _) = some 0
    rw [List.map_append, List.map_append, List.map_replicate, show arV (.str (Str.ofString "sub")) = 2 by decide +kernel, pend_app, pend_app, pend_rep2 n 0]
    have e : (is.map V.int).map arV = List.replicate n 0 := by
      rw [List.map_map, ← hl]
      exact List.eq_replicate_iff.mpr ⟨List.length_map _, fun b hb => by obtain ⟨_, _, rfl⟩ := List.mem_map.mp hb; rfl⟩
    show (pend (0 + 1 + n) [arS z]).bind (fun m => pend m ((is.map V.int).map arV)) = some 0
    rw [name_ar hz, e, show 0 + 1 + n = n + 1 by omega]
    show pend n (List.replicate n 0) = some 0
    clear hn hl e
    induction n with
    | zero => rfl
    | succ n ih => rw [List.replicate_succ]; exact ih
theorem good_neg1 {ws : List V} (h : goodT ws) (hl : ws.length ≤ 190) : goodT ([.str (Str.ofString "neg")] ++ ws) := by
  obtain ⟨h1, h2, h3⟩ := h
  refine ⟨fun v hv => ?_, ?_, by rw [List.length_append]; show 1 + ws.length ≤ 200; omega⟩
  · rcases List.mem_append.mp hv with h | h
    · rw [List.mem_singleton.mp h]; exact ok_neg
    · exact h1 v h
  · show pend 1 (arS (Str.ofString "neg") :: ws.map arV) = some 0
    rw [ar_neg]
    exact h2
theorem below_two (ws : List V) (q : Nat) : (belowN (ws.map arV) q).length ≤ 2 := by
  unfold belowN
  rw [List.length_take, List.getD_eq_getElem?_getD, List.getElem?_map]
  cases h : ws[q]? with
  | none => exact Nat.le_trans (Nat.min_le_left _ _) (Nat.zero_le _)
  | some x => exact Nat.le_trans (Nat.min_le_left _ _) (arV_le x)
theorem below_flat (ws : List V) : ∀ j : Nat, ((List.range j).flatMap (belowN (ws.map arV))).length ≤ 2 * j
  | 0 => Nat.le_refl _
  | j + 1 => by
    rw [List.range_succ, List.flatMap_append, List.length_append]
    have := below_flat ws j
    have b := below_two ws j
    show _ + (belowN (ws.map arV) j ++ []).length ≤ _
    rw [List.append_nil]
    omega
def eight : List Str := ["a", "negative", "ab", "subtotal", "addd", "ad", "mulch", "abcdefgh"]
theorem eight_all : eight.all nameB = true := by decide +kernel
theorem eight_name {z : Str} (h : z ∈ eight) : nameB z = true := List.all_eq_true.mp eight_all z h
def spTerm4 : Sp := fun vs H Q _ => ∃ (d b : Addr) (ns : List Int) (m n : Nat), vs = [.ref d, .int (m : Int)] ∧ Deck H d b ns n ∧ 1 ≤ m ∧ m ≤ 200 ∧ n ≤ 10000 ∧ ∀ (t : Addr) (n' : Nat) (H' : Hp), SameB d H H' → H' d = some (.lst [.ref b, .int (n' : Int)]) → n' ≤ n + m → H t = none → TermAt H' t m → Q (.ref t) H'
def spLean4 : Sp := fun vs H Q _ => ∃ i : Int, vs = [.int i] ∧ ∀ (t : Addr) (H' : Hp), Same H H' → H t = none → TermAt H' t 200 → Q (.ref t) H'
def spBelowF (K : PySem.W.Frag) : Sp := fun vs H Q _ => ∃ (t : Addr) (ws : List V) (p : Nat), vs = [.ref t, .int (p : Int)] ∧ SqT K H t ws ∧ (∀ v ∈ ws, isW v) ∧ ws.length ≤ 1000 ∧ isTerm ws ∧ p < ws.length ∧ ∀ (l : Addr) (H' : Hp), Same H H' → H l = none → H' l = some (.lst ((belowN (ws.map arV) p).map fun q => V.int ((q : Nat) : Int))) → Q (.ref l) H'
def spDue (K : PySem.W.Frag) : Sp := fun vs H Q _ => ∃ (t : Addr) (ws : List V), vs = [.ref t] ∧ SqT K H t ws ∧ (∀ v ∈ ws, isW v) ∧ ws.length ≤ 1000 ∧ isTerm ws ∧ ∀ (D : Addr) (rs : List Addr) (H' : Hp), Same H H' → H' D = some (.lst (rs.map V.ref)) → rs.length = ws.length → Lists H' rs (belowN (ws.map arV)) → Q (.ref D) H'
def spAlike : Sp := fun vs H Q _ => ∃ (f d : Addr) (xs : List Nat), vs = [.ref f, .ref d] ∧ H f = some (.lst (xs.map plV)) ∧ H d = some (.lst (xs.map plV)) ∧ xs.length ≤ 1000 ∧ ∀ H', Same H H' → Q (.bl true) H'
end Pc
namespace K04
open PySem PySem.Spec L2 PyProof.Rows Pc
local macro_rules | `(tactic| push_cast [$xs,*]) => `(tactic| simp only [tSeq, tIfS, tRet, tRetN, tNext, tVar, tC, tTest, tB, tOp, tUn, rI, rI0, rU, rEq, rNe, tCall, tCB, tCons, tNil, tAnd, tOr, tNot, tAndV, tOrV, tNotV, tIf, gName, tAsg, tBM, tBM0, tSl, tNoPart, tPart, rSlS, rSlL, tLst, tTup, tDrop, tNoIf, iStr, iList, iTup, iRng1, iRng2, tLC, tSetLC, frOf, List.set_cons_zero, List.set_cons_succ, List.getElem?_cons_zero, List.getElem?_cons_succ, Option.some.injEq, V.int.injEq, V.str.injEq, V.bl.injEq, V.ref.injEq, List.cons.injEq, exists_eq_left, exists_eq_left', exists_eq_right, exists_eq_right', exists_and_left, exists_and_right, and_true, true_and, List.cons_append, List.nil_append, List.append_nil, reduceCtorEq, false_and, exists_false, false_or, or_false, decide_eq_true_eq, eq_self, if_true, if_false, Bool.false_eq_true, Bool.true_eq_false, cxOf_K, cxOf_P, cxOf_w, cxOf_mg, cxOf_b, List.map_cons, List.map_nil, Option.getD_some, Option.getD_none, exists_const, nox_K, and_assoc, exists_eq, exists_eq', V.ty.injEq, tVals, Int.reduceLT, Int.reduceLE, Int.reduceNeg, Int.reducePow, Nat.reduceLT, Nat.reduceLeDiff, tFor_eq, tyV_str, CDiv, tCallV, tDIn, tDNotIn, tDGet, iRev, tDNewK, sDPut, and_self, exists_prop, $xs,*])
def top (i : Nat) : Stmt := PySem.Challenge.pw_pricecover_k04_below.main.body.getD i (.Pass ⟨0, 0, 0, 0⟩)
structure Gs (w : World) (K : PySem.W.Frag) (mg : Str → Option Value) : Prop where
  m_bool : mg "bool" = none
  m_int : mg "int" = none
  m_isinstance : mg "isinstance" = none
  m_len : mg "len" = none
  m_list : mg "list" = none
  m_range : mg "range" = none
  m_reversed : mg "reversed" = none
  m_sorted : mg "sorted" = none
  m_sum : mg "sum" = none
  m_tuple : mg "tuple" = none
  m_PARTS_BELOW : ∃ a, mg "PARTS_BELOW" = some (.ref a) ∧ ModD w K a [(Sum.inr "add", .int 2), (Sum.inr "sub", .int 2), (Sum.inr "mul", .int 2), (Sum.inr "neg", .int 1)]
def spLaw (K : PySem.W.Frag) : Sp := fun vs H Q _ => ∃ (a : Addr) (ns : List Int), vs = [.ref a] ∧ SqL K H a (ns.map V.int) ∧ ns.length ≤ 63 ∧ ∀ H', Q (.bl true) H'
section
variable {P : Program} {w : World} {K : PySem.W.Frag} {mg : Str → Option Value} {base : Heap} {k : Nat}
abbrev sHow : Stmt := top 2
theorem scHow : FnScope ["word"] ["word"] (defScope sHow) := ⟨rfl, rfl, rfl, by decide +kernel, rfl, by decide +kernel, by decide +kernel⟩
theorem hasHow (G : Gs w K mg) (D : Def K mg "how_many_below" sHow ["word"]) : Has P w K mg base (k + 1) "how_many_below" ["word"] spHow := by
  refine D.has scHow (fun vs H Q E h => ?_) (fun f cdv A outer s H vs Q E hr h => ?_)
  · obtain ⟨_, rfl, _, _⟩ := h
    rfl
  have nd := scHow.nd
  have hu := hu_of hr
  have hu0 := Nat.lt_of_succ_lt hu
  obtain ⟨v, rfl, hw, q⟩ := h
  obtain ⟨a_PARTS_BELOW, m_PARTS_BELOW, s_PARTS_BELOW⟩ := G.m_PARTS_BELOW
  refine ⟨_, (@pss_one _ _ _ (@ps_ret _ _ _ _ (@pe_mget2 _ _ _ _ _ _ _ _ _ _ (@pe_gref _ _ _ _ m_PARTS_BELOW (by rfl) (by decide +kernel)) s_PARTS_BELOW (@pv _ 0 _ _ (by rfl) (by first | exact Or.inl rfl | exact Or.inr (Or.inl rfl) | exact Or.inr (Or.inr rfl)) (by decide) (by decide)) (@pe_int _ _ _ _) (@M2.mk _ _ _ _ _ _ _ rfl rfl rfl rfl)))), ?_⟩
  rw [show start ["word"] [v] = [some (v)] from rfl]
  push_cast [tMGet2]
  obtain ⟨k, rfl⟩ := hw
  refine ⟨k, rfl, ?_⟩
  show Q ((valV parts k).getD (V.int 0)) H
  rw [val_parts]
  exact q
abbrev sBehind : Stmt := top 3
theorem scBehind : FnScope ["words", "place", "lacking", "at"] ["words", "place"] (defScope sBehind) := ⟨rfl, rfl, rfl, by decide +kernel, rfl, by decide +kernel, by decide +kernel⟩
theorem hasBehind (G : Gs w K mg) (h_how_many_below : Has P w K mg base k "how_many_below" ["word"] spHow) (D : Def K mg "place_behind" sBehind ["words", "place"]) : Has P w K mg base (k + 1) "place_behind" ["words", "place"] (spBehind K) := by
  refine D.has scBehind (fun vs H Q E h => ?_) (fun f cdv A outer s H vs Q E hr h => ?_)
  · obtain ⟨_, _, _, _, rfl, _, _, _, _, _⟩ := h
    rfl
  have nd := scBehind.nd
  have hu := hu_of hr
  have hu0 := Nat.lt_of_succ_lt hu
  obtain ⟨t, ws, p, n, rfl, hT, hw, hl, he, q⟩ := h
  refine ⟨_, (@pss_cons _ _ _ _ _ (@ps_set _ _ 2 _ _ _ _ nd rfl (by first | exact Or.inl rfl | exact Or.inr rfl) (@pe_int _ _ _ _) (by rfl) (by first | exact .inl rfl | exact .inr rfl | assumption)) (@pss_cons _ _ _ _ _ (@ps_set _ _ 3 _ _ _ _ nd rfl (by first | exact Or.inl rfl | exact Or.inr rfl) (@pv _ 1 _ _ (by rfl) (by first | exact Or.inl rfl | exact Or.inr (Or.inl rfl) | exact Or.inr (Or.inr rfl)) (by decide) (by decide)) (by rfl) (by first | exact .inl rfl | exact .inr rfl | assumption)) (@pss_cons _ _ _ _ _ (@ps_while _ _ _ _ _ _ PassesOwn.never (@pt_cmpR _ _ _ _ _ _ _ _ (@op_gt _) (@pv _ 2 _ _ (by rfl) (by first | exact Or.inl rfl | exact Or.inr (Or.inl rfl) | exact Or.inr (Or.inr rfl)) (by decide) (by decide)) (@pe_int _ _ _ _) (@nomark _ _ (by decide) (by decide))) (@pss_cons _ _ _ _ _ (@ps_set _ _ 2 _ _ _ _ nd rfl (by first | exact Or.inl rfl | exact Or.inr rfl) (@pe_op _ _ _ _ _ _ _ _ (@op_add _) (@pe_op _ _ _ _ _ _ _ _ (@op_sub _) (@pv _ 2 _ _ (by rfl) (by first | exact Or.inl rfl | exact Or.inr (Or.inl rfl) | exact Or.inr (Or.inr rfl)) (by decide) (by decide)) (@pe_int _ _ _ _)) (@pe_has _ _ _ _ _ _ _ _ _ _ h_how_many_below hr (@pa_cons _ _ _ _ _ (@pe_ix _ _ _ _ _ _ _ (@ix_tup _) (@pv _ 0 _ _ (by rfl) (by first | exact Or.inl rfl | exact Or.inr (Or.inl rfl) | exact Or.inr (Or.inr rfl)) (by decide) (by decide)) (@pv _ 3 _ _ (by rfl) (by first | exact Or.inl rfl | exact Or.inr (Or.inl rfl) | exact Or.inr (Or.inr rfl)) (by decide) (by decide)) (fun _ _ => rfl)) (@pa_nil _) (by rfl)) (by rfl) (by decide +kernel) (by rfl) (by rfl))) (by rfl) (by first | exact .inl rfl | exact .inr rfl | assumption)) (@pss_one _ _ _ (@ps_set _ _ 3 _ _ _ _ nd rfl (by first | exact Or.inl rfl | exact Or.inr rfl) (@pe_op _ _ _ _ _ _ _ _ (@op_add _) (@pv _ 3 _ _ (by rfl) (by first | exact Or.inl rfl | exact Or.inr (Or.inl rfl) | exact Or.inr (Or.inr rfl)) (by decide) (by decide)) (@pe_int _ _ _ _)) (by rfl) (by first | exact .inl rfl | exact .inr rfl | assumption))))) (@pss_one _ _ _ (@ps_ret _ _ _ _ (@pv _ 3 _ _ (by rfl) (by first | exact Or.inl rfl | exact Or.inr (Or.inl rfl) | exact Or.inr (Or.inr rfl)) (by decide) (by decide))))))), ?_⟩
  rw [show start ["words", "place", "lacking", "at"] [.ref t, .int (p : Int)] = [some (.ref t), some (.int (p : Int)), none, none] from rfl]
  push_cast [spHow]
  have hn := eat_le _ _ _ he
  rw [List.length_map, List.length_drop] at hn
  refine while_by (fun σ H' => ∃ (d j : Nat), σ = [some (.ref t), some (.int (p : Int)), some (.int (d : Int)), some (.int ((p + j : Nat) : Int))] ∧ H' = H ∧ j ≤ n ∧ eat d ((ws.drop (p + j)).map arV) = some (n - j))
    (fun σ _ => p + n - intAt σ 3) ⟨1, 0, rfl, rfl, Nat.zero_le _, he⟩ ?_ ?_
  · rintro σ H' ⟨d, j, rfl, rfl, hj, hd⟩
    push_cast [spHow]
    refine ite2 (fun c => ?_) fun c => ?_
    · obtain ⟨d', rfl⟩ : ∃ d', d = d' + 1 := ⟨d - 1, by omega⟩
      have hpos := eat_pos _ _ _ hd
      have hlt : p + j < ws.length := by omega
      have ed : ws.drop (p + j) = ws[p + j] :: ws.drop (p + j + 1) := List.drop_eq_getElem_cons hlt
      rw [ed, List.map_cons, eat_cons] at hd
      obtain ⟨m, hm, em⟩ := Option.map_eq_some_iff.mp hd
      refine ⟨t, ws, ((p + j : Nat) : Int), ws[p + j], rfl, rfl, hT, atI_nat (List.getElem?_eq_getElem hlt), hw _ (List.getElem_mem hlt), ⟨d' + arV ws[p + j], by omega, j + 1, by omega, rfl, by omega, ?_⟩, ?_⟩
      · rw [show n - (j + 1) = m by omega]
        exact hm
      · show p + n - (((p + j : Nat) : Int) + 1).toNat < p + n - (((p + j : Nat) : Int)).toNat
        omega
    · have d0 : d = 0 := by omega
      subst d0
      rw [eat_zero] at hd
      have : n - j = 0 := (Option.some.inj hd).symm
      have e : ((p + j : Nat) : Int) = (p : Int) + (n : Int) := by omega
      rw [e]
      exact q H' (Same.refl _)
  · intro σ H' Q1 Q2 hq h
    simp only [tTest, tOp, rI0, tVar, tC] at h ⊢
    obtain ⟨v, hv, i, j, e1, e2, k, e3, h⟩ := h
    exact ⟨v, hv, i, j, e1, e2, k, e3, hq _ _ h⟩
abbrev sBelow : Stmt := top 4
theorem scBelow : FnScope ["words", "place", "places", "start", "part"] ["words", "place"] (defScope sBelow) := ⟨rfl, rfl, rfl, by decide +kernel, rfl, by decide +kernel, by decide +kernel⟩
theorem hasBelow (G : Gs w K mg) (h_how_many_below : Has P w K mg base k "how_many_below" ["word"] spHow) (h_place_behind : Has P w K mg base k "place_behind" ["words", "place"] (spBehind K)) (D : Def K mg "below" sBelow ["words", "place"]) : Has P w K mg base (k + 1) "below" ["words", "place"] (spBelowF K) := by
  refine D.has scBelow (fun vs H Q E h => ?_) (fun f cdv A outer s H vs Q E hr h => ?_)
  · obtain ⟨_, _, _, rfl, _, _, _, _, _, _⟩ := h
    rfl
  have nd := scBelow.nd
  have hu := hu_of hr
  have hu0 := Nat.lt_of_succ_lt hu
  obtain ⟨t, ws, p, rfl, hT, hw, hl, hi, hp, q⟩ := h
  have m_range := G.m_range
  refine ⟨_, (@pss_cons _ _ _ _ _ (@ps_set _ _ 2 _ _ _ _ nd rfl (by first | exact Or.inl rfl | exact Or.inr rfl) (@pe_lst _ _ _ _ (@pa_nil _)) (by rfl) (by first | exact .inl rfl | exact .inr rfl | assumption)) (@pss_cons _ _ _ _ _ (@ps_set _ _ 3 _ _ _ _ nd rfl (by first | exact Or.inl rfl | exact Or.inr rfl) (@pe_op _ _ _ _ _ _ _ _ (@op_add _) (@pv _ 1 _ _ (by rfl) (by first | exact Or.inl rfl | exact Or.inr (Or.inl rfl) | exact Or.inr (Or.inr rfl)) (by decide) (by decide)) (@pe_int _ _ _ _)) (by rfl) (by first | exact .inl rfl | exact .inr rfl | assumption)) (@pss_cons _ _ _ _ _ (@ps_for _ _ _ _ _ _ _ _ PassesOwn.never rfl (@pi_range1 _ _ _ _ _ _ rfl m_range (@pa_cons _ _ _ _ _ (@pe_has _ _ _ _ _ _ _ _ _ _ h_how_many_below hr (@pa_cons _ _ _ _ _ (@pe_ix _ _ _ _ _ _ _ (@ix_tup _) (@pv _ 0 _ _ (by rfl) (by first | exact Or.inl rfl | exact Or.inr (Or.inl rfl) | exact Or.inr (Or.inr rfl)) (by decide) (by decide)) (@pv _ 1 _ _ (by rfl) (by first | exact Or.inl rfl | exact Or.inr (Or.inl rfl) | exact Or.inr (Or.inr rfl)) (by decide) (by decide)) (fun _ _ => rfl)) (@pa_nil _) (by rfl)) (by rfl) (by decide +kernel) (by rfl) (by rfl)) (@pa_nil _) (by rfl)) (by rfl)) (@pg_name _ _ 4 _ nd rfl (by first | exact Or.inl rfl | exact Or.inr rfl) (by first | exact .inl rfl | exact .inr rfl | assumption)) (@pss_cons _ _ _ _ _ (@ps_expr _ _ _ _ (@pe_bm _ _ _ _ _ _ _ _ _ _ _ _ PySem.F.plainAttrs_list PySem.F.slot_list_append PySem.F.type_list_append (@mt_append _) (@pv _ 2 _ _ (by rfl) (by first | exact Or.inl rfl | exact Or.inr (Or.inl rfl) | exact Or.inr (Or.inr rfl)) (by decide) (by decide)) (@pa_cons _ _ _ _ _ (@pv _ 3 _ _ (by rfl) (by first | exact Or.inl rfl | exact Or.inr (Or.inl rfl) | exact Or.inr (Or.inr rfl)) (by decide) (by decide)) (@pa_nil _) (by rfl)) (by rfl) (by rfl) (by rfl) (by rfl) (by rfl)) (by rfl)) (@pss_one _ _ _ (@ps_set _ _ 3 _ _ _ _ nd rfl (by first | exact Or.inl rfl | exact Or.inr rfl) (@pe_has _ _ _ _ _ _ _ _ _ _ h_place_behind hr (@pa_cons _ _ _ _ _ (@pv _ 0 _ _ (by rfl) (by first | exact Or.inl rfl | exact Or.inr (Or.inl rfl) | exact Or.inr (Or.inr rfl)) (by decide) (by decide)) (@pa_cons _ _ _ _ _ (@pv _ 3 _ _ (by rfl) (by first | exact Or.inl rfl | exact Or.inr (Or.inl rfl) | exact Or.inr (Or.inr rfl)) (by decide) (by decide)) (@pa_nil _) (by rfl)) (by rfl)) (by rfl) (by decide +kernel) (by rfl) (by rfl)) (by rfl) (by first | exact .inl rfl | exact .inr rfl | assumption)))) (by intro _; rfl)) (@pss_one _ _ _ (@ps_ret _ _ _ _ (@pv _ 2 _ _ (by rfl) (by first | exact Or.inl rfl | exact Or.inr (Or.inl rfl) | exact Or.inr (Or.inr rfl)) (by decide) (by decide))))))), ?_⟩
  rw [show start ["words", "place", "places", "start", "part"] [.ref t, .int (p : Int)] = [some (.ref t), some (.int (p : Int)), none, none, none] from rfl]
  push_cast [spHow, spBehind]
  have sz := sizeLine_eq
  have hx : ws[p]? = some ws[p] := List.getElem?_eq_getElem hp
  have ar2 := arV_le ws[p]
  refine ⟨Nat.zero_le _, fun a ha => ⟨t, ws, (p : Int), ws[p], rfl, rfl, (same_new ha _).tup hT, atI_nat hx, hw _ (List.getElem_mem hp), by omega, by omega, ?_⟩⟩
  have ed : ws.drop p = ws[p] :: ws.drop (p + 1) := List.drop_eq_getElem_cons hp
  obtain ⟨m, hm⟩ := pend_drop _ 1 hi p
  rw [← List.map_drop, ed] at hm
  obtain ⟨m', rfl⟩ : ∃ m', m = m' + 1 := by
    cases m with
    | zero => cases hm
    | succ m' => exact ⟨m', rfl⟩
  have hm : pend (m' + arV ws[p]) ((ws.drop (p + 1)).map arV) = some 0 := hm
  have ea : (ws.map arV).getD p 0 = arV ws[p] := by rw [List.getD_eq_getElem?_getD, List.getElem?_map, hx]; rfl
  rw [show (((arV ws[p] : Nat) : Int)).toNat = arV ws[p] by omega]
  refine forW_range (lo := 0) (fun j σ H' => ∃ (st : Nat) (v : Option V), σ = [some (.ref t), some (.int (p : Int)), some (.ref a), some (.int ((p + 1 + st : Nat) : Int)), v] ∧ Same H H' ∧ eat j ((ws.drop (p + 1)).map arV) = some st ∧ H' a = some (.lst (((starts (p + 1) ((ws.drop (p + 1)).map arV)).take j).map fun q => V.int ((q : Nat) : Int)))) ⟨0, none, rfl, same_new ha _, eat_zero _, upd_same⟩ ?_ ?_
  · rintro j σ H' hj ⟨st, v, rfl, hS, he, hA⟩
    push_cast [spBehind]
    obtain ⟨x, h1, h2⟩ := pend_split ((ws.drop (p + 1)).map arV) (j + 1) (m' + arV ws[p] - (j + 1)) (by rw [show j + 1 + (m' + arV ws[p] - (j + 1)) = m' + arV ws[p] by omega]; exact hm)
    have h1' := h1
    rw [eat_add, he] at h1'
    obtain ⟨n, h3, rfl⟩ := Option.map_eq_some_iff.mp (show (eat 1 (((ws.drop (p + 1)).map arV).drop st)).map (st + ·) = some x from h1')
    have h3' := h3
    rw [← List.map_drop, List.drop_drop] at h3'
    refine append_ok hA (by rw [List.length_map, List.length_take]; omega) ⟨ws, p + 1 + st, rfl, (hS.upd ha _).tup hT, hw, hl, n, h3', fun H2 s2 => ⟨st + n, by omega, (hS.upd ha _).trans s2, h1, ?_⟩⟩
    rw [s2 _ _ upd_same]
    have e := starts_drop _ _ _ (p + 1) he
    have e2 : (starts (p + 1) ((ws.drop (p + 1)).map arV))[j]? = ((starts (p + 1) ((ws.drop (p + 1)).map arV)).drop j)[0]? := by rw [List.getElem?_drop]; rfl
    obtain ⟨u, hu'⟩ := starts_head (((ws.drop (p + 1)).map arV).drop st) (p + 1 + st) (by intro z; rw [z] at h3; cases h3)
    rw [e, hu'] at e2
    rw [List.take_add_one, e2]
    simp
  · rintro σ H' ⟨st, v, rfl, hS, he, hA⟩
    push_cast [and_true]
    refine q a H' hS ha ?_
    unfold belowN
    rw [ea, ← List.map_drop]
    exact hA
abbrev sNext : Stmt := top 6
theorem scNext : FnScope ["deck", "at"] ["deck"] (defScope sNext) := ⟨rfl, rfl, rfl, by decide +kernel, rfl, by decide +kernel, by decide +kernel⟩
theorem hasNext (G : Gs w K mg) (D : Def K mg "_law_next" sNext ["deck"]) : Has P w K mg base (k + 1) "_law_next" ["deck"] spNext := by
  refine D.has scNext (fun vs H Q E h => ?_) (fun f cdv A outer s H vs Q E hr h => ?_)
  · obtain ⟨_, _, _, _, rfl, _, _, _⟩ := h
    rfl
  have nd := scNext.nd
  have hu := hu_of hr
  have hu0 := Nat.lt_of_succ_lt hu
  obtain ⟨d, b, ns, n, rfl, hD, hn, q⟩ := h
  have m_len := G.m_len
  have m_sum := G.m_sum
  refine ⟨_, (@pss_cons _ _ _ _ _ (@ps_set _ _ 1 _ _ _ _ nd rfl (by first | exact Or.inl rfl | exact Or.inr rfl) (@pe_ix _ _ _ _ _ _ _ (@ix_list _) (@pv _ 0 _ _ (by rfl) (by first | exact Or.inl rfl | exact Or.inr (Or.inl rfl) | exact Or.inr (Or.inr rfl)) (by decide) (by decide)) (@pe_int _ _ _ _) (fun _ _ => rfl)) (by rfl) (by first | exact .inl rfl | exact .inr rfl | assumption)) (@pss_cons _ _ _ _ _ (@ps_asg _ _ _ _ _ _ (@pe_op _ _ _ _ _ _ _ _ (@op_add _) (@pv _ 1 _ _ (by rfl) (by first | exact Or.inl rfl | exact Or.inr (Or.inl rfl) | exact Or.inr (Or.inr rfl)) (by decide) (by decide)) (@pe_int _ _ _ _)) (@pg_sub _ _ _ _ _ _ _ (@pv _ 0 _ _ (by rfl) (by first | exact Or.inl rfl | exact Or.inr (Or.inl rfl) | exact Or.inr (Or.inr rfl)) (by decide) (by decide)) (@pe_int _ _ _ _) (@set_list _) (by intro _; rfl)) (by rfl) (by rfl) (by rfl)) (@pss_cons _ _ _ _ _ (@ps_if _ _ _ _ _ _ _ _ (@pt_cmpR _ _ _ _ _ _ _ _ (@op_lt _) (@pv _ 1 _ _ (by rfl) (by first | exact Or.inl rfl | exact Or.inr (Or.inl rfl) | exact Or.inr (Or.inr rfl)) (by decide) (by decide)) (@pe_callB _ _ _ _ _ _ _ _ _ (@call_len_seq _) rfl m_len b_len (@pa_cons _ _ _ _ _ (@pe_ix _ _ _ _ _ _ _ (@ix_list _) (@pv _ 0 _ _ (by rfl) (by first | exact Or.inl rfl | exact Or.inr (Or.inl rfl) | exact Or.inr (Or.inr rfl)) (by decide) (by decide)) (@pe_int _ _ _ _) (fun _ _ => rfl)) (@pa_nil _) (by rfl)) (by decide) (by decide) (by rfl) (by rfl)) (@nomark _ _ (by decide) (by decide))) (@pss_one _ _ _ (@ps_ret _ _ _ _ (@pe_ix _ _ _ _ _ _ _ (@ix_list _) (@pe_ix _ _ _ _ _ _ _ (@ix_list _) (@pv _ 0 _ _ (by rfl) (by first | exact Or.inl rfl | exact Or.inr (Or.inl rfl) | exact Or.inr (Or.inr rfl)) (by decide) (by decide)) (@pe_int _ _ _ _) (fun _ _ => rfl)) (@pv _ 1 _ _ (by rfl) (by first | exact Or.inl rfl | exact Or.inr (Or.inl rfl) | exact Or.inr (Or.inr rfl)) (by decide) (by decide)) (fun _ _ => rfl)))) (@pss_nil _)) (@pss_one _ _ _ (@ps_ret _ _ _ _ (@pe_op _ _ _ _ _ _ _ _ (@op_mod _) (@pe_op _ _ _ _ _ _ _ _ (@op_add _) (@pe_op _ _ _ _ _ _ _ _ (@op_add _) (@pe_op _ _ _ _ _ _ _ _ (@op_mul _) (@pe_op _ _ _ _ _ _ _ _ (@op_mul _) (@pe_op _ _ _ _ _ _ _ _ (@op_mul _) (@pv _ 1 _ _ (by rfl) (by first | exact Or.inl rfl | exact Or.inr (Or.inl rfl) | exact Or.inr (Or.inr rfl)) (by decide) (by decide)) (@pv _ 1 _ _ (by rfl) (by first | exact Or.inl rfl | exact Or.inr (Or.inl rfl) | exact Or.inr (Or.inr rfl)) (by decide) (by decide))) (@pv _ 1 _ _ (by rfl) (by first | exact Or.inl rfl | exact Or.inr (Or.inl rfl) | exact Or.inr (Or.inr rfl)) (by decide) (by decide))) (@pe_int _ _ _ _)) (@pe_op _ _ _ _ _ _ _ _ (@op_mul _) (@pe_op _ _ _ _ _ _ _ _ (@op_mul _) (@pe_int _ _ _ _) (@pv _ 1 _ _ (by rfl) (by first | exact Or.inl rfl | exact Or.inr (Or.inl rfl) | exact Or.inr (Or.inr rfl)) (by decide) (by decide))) (@pv _ 1 _ _ (by rfl) (by first | exact Or.inl rfl | exact Or.inr (Or.inl rfl) | exact Or.inr (Or.inr rfl)) (by decide) (by decide)))) (@pe_callB _ _ _ _ _ _ _ _ _ (@call_sum_list _ rfl) rfl m_sum b_sum (@pa_cons _ _ _ _ _ (@pe_slice _ _ _ _ _ _ _ _ _ _ (@sl_list _) (@pe_ix _ _ _ _ _ _ _ (@ix_list _) (@pv _ 0 _ _ (by rfl) (by first | exact Or.inl rfl | exact Or.inr (Or.inl rfl) | exact Or.inr (Or.inr rfl)) (by decide) (by decide)) (@pe_int _ _ _ _) (fun _ _ => rfl)) (@po_none _) (@po_some _ _ _ (@pe_int _ _ _ _))) (@pa_nil _) (by rfl)) (by decide) (by decide) (by rfl) (by rfl))) (@pe_int _ _ _ _))))))), ?_⟩
  rw [show start ["deck", "at"] [.ref d] = [some (.ref d), none] from rfl]
  push_cast [rIxL, gSub, rSetL]
  have nb := hD.ne
  obtain ⟨h1, h2⟩ := hD
  refine ⟨_, SqL.of h1, .int (n : Int), rfl, ?_⟩
  push_cast [and_true]
  refine ⟨_, h1, 1, rfl, [.ref b, .int ((n : Int) + 1)], SqL.of upd_same, .ref b, rfl, ?_⟩
  push_cast [and_true]
  have h3 : upd H d (.lst [.ref b, .int ((n : Int) + 1)]) b = some (.lst (ns.map V.int)) := by rw [upd_ne nb]; exact h2
  have hS : SameB d H (upd H d (.lst [.ref b, .int ((n : Int) + 1)])) := fun c o hc ho => by rw [upd_ne hc]; exact ho
  have hD' : upd H d (.lst [.ref b, .int ((n : Int) + 1)]) d = some (.lst [.ref b, .int ((n + 1 : Nat) : Int)]) := upd_same
  refine ⟨ns.map V.int, .inl (SqL.of h3), ite2 (fun c => ?_) fun c => ?_⟩
  · rw [List.length_map] at c
    have hlt : n < ns.length := by omega
    refine ⟨_, SqL.of upd_same, .ref b, rfl, ?_⟩
    push_cast [and_true]
    exact ⟨_, SqL.of h3, .int ns[n], atI_nat (by rw [List.getElem?_map, List.getElem?_eq_getElem hlt]; rfl), q _ _ hS hD'⟩
  · refine ⟨.inl ⟨by omega, by omega⟩, .inr ⟨by omega, by omega⟩, .inr ⟨by decide, by decide⟩, .inl ⟨by decide, by decide⟩, .inr ⟨by omega, by omega⟩, _, SqL.of upd_same, .ref b, rfl, ?_⟩
    push_cast [and_true]
    refine ⟨_, SqL.of h3, fun p hp => ?_⟩
    have e : ∃ ms : List Int, cutV (ns.map V.int) none (some 40) = ms.map V.int := ⟨_, by unfold cutV; rw [← List.map_drop, ← List.map_take]⟩
    obtain ⟨ms, em⟩ := e
    rw [em]
    exact ⟨ms, SqL.of upd_same, q _ _ (fun c o hc ho => by rw [upd_ne (ne_of_none (hS c o hc ho) hp)]; exact hS c o hc ho) (same_new hp _ _ _ hD')⟩
abbrev sTerm : Stmt := top 7
theorem scTerm : FnScope ["deck", "most", "names", "words", "due", "cell", "room", "rest"] ["deck", "most"] (defScope sTerm) := ⟨rfl, rfl, rfl, by decide +kernel, rfl, by decide +kernel, by decide +kernel⟩
theorem hasTerm (G : Gs w K mg) (h_law_next : Has P w K mg base k "_law_next" ["deck"] spNext) (D : Def K mg "_law_term" sTerm ["deck", "most"]) : Has P w K mg base (k + 1) "_law_term" ["deck", "most"] spTerm4 := by
  refine D.has scTerm (fun vs H Q E h => ?_) (fun f cdv A outer s H vs Q E hr h => ?_)
  · obtain ⟨_, _, _, _, _, rfl, _, _, _, _, _⟩ := h
    rfl
  have nd := scTerm.nd
  have hu := hu_of hr
  have hu0 := Nat.lt_of_succ_lt hu
  obtain ⟨d, b, ns, m, n, rfl, hD, h1, h2, hn, q⟩ := h
  have m_len := G.m_len
  have m_tuple := G.m_tuple
  refine ⟨_, (@pss_cons _ _ _ _ _ (@ps_set _ _ 2 _ _ _ _ nd rfl (by first | exact Or.inl rfl | exact Or.inr rfl) (@pe_lst _ _ _ _ (@pa_const _ _ _ (@CsOk.str _ _ _ _ _ (@CsOk.str _ _ _ _ _ (@CsOk.str _ _ _ _ _ (@CsOk.str _ _ _ _ _ (@CsOk.str _ _ _ _ _ (@CsOk.str _ _ _ _ _ (@CsOk.str _ _ _ _ _ (@CsOk.str _ _ _ _ _ (@CsOk.nil))))))))))) (by rfl) (by first | exact .inl rfl | exact .inr rfl | assumption)) (@pss_cons _ _ _ _ _ (@ps_set _ _ 3 _ _ _ _ nd rfl (by first | exact Or.inl rfl | exact Or.inr rfl) (@pe_lst _ _ _ _ (@pa_nil _)) (by rfl) (by first | exact .inl rfl | exact .inr rfl | assumption)) (@pss_cons _ _ _ _ _ (@ps_set _ _ 4 _ _ _ _ nd rfl (by first | exact Or.inl rfl | exact Or.inr rfl) (@pe_int _ _ _ _) (by rfl) (by first | exact .inl rfl | exact .inr rfl | assumption)) (@pss_cons _ _ _ _ _ (@ps_while _ _ _ _ _ _ PassesOwn.never (@pt_cmpR _ _ _ _ _ _ _ _ (@op_gt _) (@pv _ 4 _ _ (by rfl) (by first | exact Or.inl rfl | exact Or.inr (Or.inl rfl) | exact Or.inr (Or.inr rfl)) (by decide) (by decide)) (@pe_int _ _ _ _) (@nomark _ _ (by decide) (by decide))) (@pss_cons _ _ _ _ _ (@ps_set _ _ 5 _ _ _ _ nd rfl (by first | exact Or.inl rfl | exact Or.inr rfl) (@pe_has _ _ _ _ _ _ _ _ _ _ h_law_next hr (@pa_cons _ _ _ _ _ (@pv _ 0 _ _ (by rfl) (by first | exact Or.inl rfl | exact Or.inr (Or.inl rfl) | exact Or.inr (Or.inr rfl)) (by decide) (by decide)) (@pa_nil _) (by rfl)) (by rfl) (by decide +kernel) (by rfl) (by rfl)) (by rfl) (by first | exact .inl rfl | exact .inr rfl | assumption)) (@pss_cons _ _ _ _ _ (@ps_set _ _ 6 _ _ _ _ nd rfl (by first | exact Or.inl rfl | exact Or.inr rfl) (@pe_op _ _ _ _ _ _ _ _ (@op_sub _) (@pe_op _ _ _ _ _ _ _ _ (@op_sub _) (@pv _ 1 _ _ (by rfl) (by first | exact Or.inl rfl | exact Or.inr (Or.inl rfl) | exact Or.inr (Or.inr rfl)) (by decide) (by decide)) (@pe_callB _ _ _ _ _ _ _ _ _ (@call_len_seq _) rfl m_len b_len (@pa_cons _ _ _ _ _ (@pv _ 3 _ _ (by rfl) (by first | exact Or.inl rfl | exact Or.inr (Or.inl rfl) | exact Or.inr (Or.inr rfl)) (by decide) (by decide)) (@pa_nil _) (by rfl)) (by decide) (by decide) (by rfl) (by rfl))) (@pv _ 4 _ _ (by rfl) (by first | exact Or.inl rfl | exact Or.inr (Or.inl rfl) | exact Or.inr (Or.inr rfl)) (by decide) (by decide))) (by rfl) (by first | exact .inl rfl | exact .inr rfl | assumption)) (@pss_cons _ _ _ _ _ (@ps_set _ _ 7 _ _ _ _ nd rfl (by first | exact Or.inl rfl | exact Or.inr rfl) (@pe_op _ _ _ _ _ _ _ _ (@op_fdiv _) (@pv _ 5 _ _ (by rfl) (by first | exact Or.inl rfl | exact Or.inr (Or.inl rfl) | exact Or.inr (Or.inr rfl)) (by decide) (by decide)) (@pe_int _ _ _ _)) (by rfl) (by first | exact .inl rfl | exact .inr rfl | assumption)) (@pss_cons _ _ _ _ _ (@ps_set _ _ 4 _ _ _ _ nd rfl (by first | exact Or.inl rfl | exact Or.inr rfl) (@pe_op _ _ _ _ _ _ _ _ (@op_sub _) (@pv _ 4 _ _ (by rfl) (by first | exact Or.inl rfl | exact Or.inr (Or.inl rfl) | exact Or.inr (Or.inr rfl)) (by decide) (by decide)) (@pe_int _ _ _ _)) (by rfl) (by first | exact .inl rfl | exact .inr rfl | assumption)) (@pss_one _ _ _ (@ps_if _ _ _ _ _ _ _ _ (@PW.pt _ _ _ (@pw_and _ _ _ _ _ _ _ (@pt_cmpR _ _ _ _ _ _ _ _ (@op_lt _) (@pe_op _ _ _ _ _ _ _ _ (@op_mod _) (@pv _ 5 _ _ (by rfl) (by first | exact Or.inl rfl | exact Or.inr (Or.inl rfl) | exact Or.inr (Or.inr rfl)) (by decide) (by decide)) (@pe_int _ _ _ _)) (@pe_int _ _ _ _) (@nomark _ _ (by decide) (by decide))) (@pw_and1 _ _ _ _ (@pt_cmpR _ _ _ _ _ _ _ _ (@op_gt _) (@pv _ 6 _ _ (by rfl) (by first | exact Or.inl rfl | exact Or.inr (Or.inl rfl) | exact Or.inr (Or.inr rfl)) (by decide) (by decide)) (@pe_int _ _ _ _) (@nomark _ _ (by decide) (by decide)))))) (@pss_cons _ _ _ _ _ (@ps_expr _ _ _ _ (@pe_bm _ _ _ _ _ _ _ _ _ _ _ _ PySem.F.plainAttrs_list PySem.F.slot_list_append PySem.F.type_list_append (@mt_append _) (@pv _ 3 _ _ (by rfl) (by first | exact Or.inl rfl | exact Or.inr (Or.inl rfl) | exact Or.inr (Or.inr rfl)) (by decide) (by decide)) (@pa_cons _ _ _ _ _ (@pe_ix _ _ _ _ _ _ _ (@ix_list _) (@pe_lst _ _ _ _ (@pa_const _ _ _ (@CsOk.str _ _ _ _ _ (@CsOk.str _ _ _ _ _ (@CsOk.str _ _ _ _ _ (@CsOk.str _ _ _ _ _ (@CsOk.nil))))))) (@pe_op _ _ _ _ _ _ _ _ (@op_mod _) (@pv _ 5 _ _ (by rfl) (by first | exact Or.inl rfl | exact Or.inr (Or.inl rfl) | exact Or.inr (Or.inr rfl)) (by decide) (by decide)) (@pe_int _ _ _ _)) (fun _ _ => rfl)) (@pa_nil _) (by rfl)) (by rfl) (by rfl) (by rfl) (by rfl) (by rfl)) (by rfl)) (@pss_one _ _ _ (@ps_set _ _ 4 _ _ _ _ nd rfl (by first | exact Or.inl rfl | exact Or.inr rfl) (@pe_op _ _ _ _ _ _ _ _ (@op_add _) (@pv _ 4 _ _ (by rfl) (by first | exact Or.inl rfl | exact Or.inr (Or.inl rfl) | exact Or.inr (Or.inr rfl)) (by decide) (by decide)) (@pe_int _ _ _ _)) (by rfl) (by first | exact .inl rfl | exact .inr rfl | assumption)))) (@pss_one _ _ _ (@ps_if _ _ _ _ _ _ _ _ (@PW.pt _ _ _ (@pw_and _ _ _ _ _ _ _ (@pt_cmpR _ _ _ _ _ _ _ _ (@op_eq _) (@pe_op _ _ _ _ _ _ _ _ (@op_mod _) (@pv _ 5 _ _ (by rfl) (by first | exact Or.inl rfl | exact Or.inr (Or.inl rfl) | exact Or.inr (Or.inr rfl)) (by decide) (by decide)) (@pe_int _ _ _ _)) (@pe_int _ _ _ _) (@nomark _ _ (by decide) (by decide))) (@pw_and1 _ _ _ _ (@pt_cmpR _ _ _ _ _ _ _ _ (@op_gt _) (@pv _ 6 _ _ (by rfl) (by first | exact Or.inl rfl | exact Or.inr (Or.inl rfl) | exact Or.inr (Or.inr rfl)) (by decide) (by decide)) (@pe_int _ _ _ _) (@nomark _ _ (by decide) (by decide)))))) (@pss_cons _ _ _ _ _ (@ps_expr _ _ _ _ (@pe_bm _ _ _ _ _ _ _ _ _ _ _ _ PySem.F.plainAttrs_list PySem.F.slot_list_append PySem.F.type_list_append (@mt_append _) (@pv _ 3 _ _ (by rfl) (by first | exact Or.inl rfl | exact Or.inr (Or.inl rfl) | exact Or.inr (Or.inr rfl)) (by decide) (by decide)) (@pa_cons _ _ _ _ _ (@pe_str _ _ _ _) (@pa_nil _) (by rfl)) (by rfl) (by rfl) (by rfl) (by rfl) (by rfl)) (by rfl)) (@pss_one _ _ _ (@ps_set _ _ 4 _ _ _ _ nd rfl (by first | exact Or.inl rfl | exact Or.inr rfl) (@pe_op _ _ _ _ _ _ _ _ (@op_add _) (@pv _ 4 _ _ (by rfl) (by first | exact Or.inl rfl | exact Or.inr (Or.inl rfl) | exact Or.inr (Or.inr rfl)) (by decide) (by decide)) (@pe_int _ _ _ _)) (by rfl) (by first | exact .inl rfl | exact .inr rfl | assumption)))) (@pss_one _ _ _ (@ps_if _ _ _ _ _ _ _ _ (@pt_cmpR _ _ _ _ _ _ _ _ (@op_lt _) (@pe_op _ _ _ _ _ _ _ _ (@op_mod _) (@pv _ 5 _ _ (by rfl) (by first | exact Or.inl rfl | exact Or.inr (Or.inl rfl) | exact Or.inr (Or.inr rfl)) (by decide) (by decide)) (@pe_int _ _ _ _)) (@pe_int _ _ _ _) (@nomark _ _ (by decide) (by decide))) (@pss_one _ _ _ (@ps_expr _ _ _ _ (@pe_bm _ _ _ _ _ _ _ _ _ _ _ _ PySem.F.plainAttrs_list PySem.F.slot_list_append PySem.F.type_list_append (@mt_append _) (@pv _ 3 _ _ (by rfl) (by first | exact Or.inl rfl | exact Or.inr (Or.inl rfl) | exact Or.inr (Or.inr rfl)) (by decide) (by decide)) (@pa_cons _ _ _ _ _ (@pe_op _ _ _ _ _ _ _ _ (@op_sub _) (@pe_op _ _ _ _ _ _ _ _ (@op_mod _) (@pv _ 7 _ _ (by rfl) (by first | exact Or.inl rfl | exact Or.inr (Or.inl rfl) | exact Or.inr (Or.inr rfl)) (by decide) (by decide)) (@pe_op _ _ _ _ _ _ _ _ (@op_pow _) (@pe_int _ _ _ _) (@pe_int _ _ _ _))) (@pe_int _ _ _ _)) (@pa_nil _) (by rfl)) (by rfl) (by rfl) (by rfl) (by rfl) (by rfl)) (by rfl))) (@pss_one _ _ _ (@ps_expr _ _ _ _ (@pe_bm _ _ _ _ _ _ _ _ _ _ _ _ PySem.F.plainAttrs_list PySem.F.slot_list_append PySem.F.type_list_append (@mt_append _) (@pv _ 3 _ _ (by rfl) (by first | exact Or.inl rfl | exact Or.inr (Or.inl rfl) | exact Or.inr (Or.inr rfl)) (by decide) (by decide)) (@pa_cons _ _ _ _ _ (@pe_ix _ _ _ _ _ _ _ (@ix_list _) (@pv _ 2 _ _ (by rfl) (by first | exact Or.inl rfl | exact Or.inr (Or.inl rfl) | exact Or.inr (Or.inr rfl)) (by decide) (by decide)) (@pe_op _ _ _ _ _ _ _ _ (@op_mod _) (@pv _ 7 _ _ (by rfl) (by first | exact Or.inl rfl | exact Or.inr (Or.inl rfl) | exact Or.inr (Or.inr rfl)) (by decide) (by decide)) (@pe_int _ _ _ _)) (fun _ _ => rfl)) (@pa_nil _) (by rfl)) (by rfl) (by rfl) (by rfl) (by rfl) (by rfl)) (by rfl)))))))))))))) (@pss_one _ _ _ (@ps_ret _ _ _ _ (@pe_callTy _ _ _ _ _ _ _ _ _ (@call_tuple_of _) rfl m_tuple b_tuple (@pa_cons _ _ _ _ _ (@pv _ 3 _ _ (by rfl) (by first | exact Or.inl rfl | exact Or.inr (Or.inl rfl) | exact Or.inr (Or.inr rfl)) (by decide) (by decide)) (@pa_nil _) (by rfl)) (by decide) (by decide) (by rfl) (by rfl)))))))), ?_⟩
  rw [show start ["deck", "most", "names", "words", "due", "cell", "room", "rest"] [.ref d, .int (m : Int)] = [some (.ref d), some (.int (m : Int)), none, none, none, none, none, none] from rfl]
  push_cast [spNext]
  have e60 : (10 : Int) ^ Int.toNat 60 = 1000000000000000000000000000000000000000000000000000000000000 := by decide +kernel
  have sz := sizeLine_eq
  refine ⟨by show (8 : Nat) ≤ sizeLine; decide, fun l hln => ⟨Nat.zero_le _, fun p hp => ?_⟩⟩
  have hpn : H p = none := (same_new hln _).free hp
  have npd : p ≠ d := (ne_of_none hD.1 hpn).symm
  have nld : l ≠ d := (ne_of_none hD.1 hln).symm
  have nlp : l ≠ p := ne_of_none upd_same hp
  refine while_by (fun σ H' => ∃ (ws : List V) (due : Nat) (v1 v2 v3 : Option V), σ = [some (.ref d), some (.int (m : Int)), some (.ref l), some (.ref p), some (.int (due : Int)), v1, v2, v3] ∧ SameB d H H' ∧ H' d = some (.lst [.ref b, .int ((n + ws.length : Nat) : Int)]) ∧ H' l = some (.lst (eight.map V.str)) ∧ H' p = some (.lst ws) ∧ (∀ v ∈ ws, okW v) ∧ pend 1 (ws.map arV) = some due ∧ ws.length + due ≤ m)
    (fun σ H' => m - lenAt H' p) ?_ ?_ ?_
  · exact ⟨[], 1, none, none, none, rfl, ((SameB.refl d H).upd hln _).upd hpn _, same_new hp _ _ _ (same_new hln _ _ _ hD.1), by rw [upd_ne nlp, upd_same]; rfl, upd_same, (fun _ h => nomatch h), rfl, by show 0 + 1 ≤ m; omega⟩
  · rintro σ H' ⟨ws, due, v1, v2, v3, rfl, hS, hD', hl', hp', hw, hpd, hr⟩
    push_cast [spNext, CDiv, CPow]
    have hDk : Deck H' d b ns (n + ws.length) := hD.next hS hD'
    refine ite2 (fun hdue => ⟨b, ns, _, hDk, by omega, fun c H1 s1 d1 => ?_⟩) fun hdue => ?_
    · have hp1 : H1 p = some (.lst ws) := s1 p _ npd hp'
      have hl1 := s1 l _ nld hl'
      have app : ∀ (v : V) (H2 : Hp) (dd : Int), okW v → dd = (due : Int) - 1 + (arV v : Int) → ws.length + due + arV v ≤ m → Same H1 H2 →
          rAppend (.ref p) [v] H2 fun _ H3 => (∃ ws due_1, dd = ((due_1 : Nat) : Int) ∧ SameB d H H3 ∧ H3 d = some (.lst [.ref b, .int ((n + ws.length : Nat) : Int)]) ∧ H3 l = some (.lst (eight.map V.str)) ∧ H3 p = some (.lst ws) ∧ (∀ v ∈ ws, okW v) ∧ pend 1 (ws.map arV) = some due_1 ∧ ws.length + due_1 ≤ m) ∧ m - lenAt H3 p < m - lenAt H' p := by
        intro v H2 dd hv hdd hroom s2
        have hp2 := s2 _ _ hp1
        refine ⟨p, ws, v, rfl, rfl, hp2, by omega, ⟨ws ++ [v], due - 1 + arV v, by omega, (hS.trans (s1.trans (SameB.of s2))).upd hpn _, ?_, by rw [upd_ne nlp]; exact s2 _ _ hl1, upd_same, fun x hx => ?_, ?_, ?_⟩, ?_⟩
        · rw [upd_ne npd.symm, List.length_append]
          exact s2 _ _ d1
        · rcases List.mem_append.mp hx with h | h
          · exact hw x h
          · rw [List.mem_singleton.mp h]; exact hv
        · rw [List.map_append]
          exact pend_snoc _ _ _ _ hpd (by omega)
        · rw [List.length_append, List.length_singleton]; omega
        · rw [lenAt_of upd_same, lenAt_of hp', List.length_append, List.length_singleton]; omega
      have tl : tyV K "list" (.ref p) H1 := tyV_list hp1
      have num := app (.int (c / 8 % 1000000000000000000000000000000000000000000000000000000000000 - 5)) H1 ((due : Int) - 1) (by show (c / 8 % 1000000000000000000000000000000000000000000000000000000000000 - 5).natAbs < 10 ^ 60; omega) (by show _ = (due : Int) - 1 + ((0 : Nat) : Int); omega) (by show ws.length + due + 0 ≤ m; omega) (Same.refl _)
      rw [e60]
      have num2 := And.intro tl (And.intro (show Int.natAbs 10 < 2 ^ 64 by decide) (And.intro (show (0 : Int) < 1000000000000000000000000000000000000000000000000000000000000 by decide) num))
      obtain ⟨z, hzat, hz⟩ := strs_at (zs := eight) (n := 8) rfl (k := c / 8 % 8) (Int.emod_nonneg _ (by decide)) (by show c / 8 % 8 < 8; omega)
      have az : arV (.str z) = 0 := name_ar (eight_name hz)
      have nam := app (.str z) H1 ((due : Int) - 1) (.inl (eight_name hz)) (by rw [az]; omega) (by rw [az]; omega) (Same.refl _)
      have an : arV (.str (Str.ofString "neg")) = 1 := ar_neg
      have neg := fun (r0 : 0 < (m : Int) - (ws.length : Int) - (due : Int)) => app (.str (Str.ofString "neg")) H1 ((due : Int) - 1 + 1) (.inr (by rw [ar_neg]; decide)) (by rw [an]; omega) (by rw [an]; omega) (Same.refl _)
      refine ⟨ws, .inl (SqL.of hp1), ite2 (fun c4 => ite2 (fun r1 => ⟨tl, by show (4 : Nat) ≤ sizeLine; decide, fun p2 hp2 => ?_⟩) fun r1 => ⟨rfl, ite2 (fun e4 => ite2 (fun r0 => ⟨tl, neg r0⟩) fun r0 => ite2 (fun _ => num2) fun _ => ⟨tl, rIxL_ok hl1 hzat nam⟩) fun e4 => ite2 (fun _ => num2) fun _ => ⟨tl, rIxL_ok hl1 hzat nam⟩⟩)
        fun c4 => ⟨rfl, ite2 (fun e4 => ite2 (fun r0 => ⟨tl, neg r0⟩) fun r0 => ite2 (fun _ => num2) fun _ => ⟨tl, rIxL_ok hl1 hzat nam⟩) fun e4 => ite2 (fun _ => num2) fun _ => ⟨tl, rIxL_ok hl1 hzat nam⟩⟩⟩
      obtain ⟨y, hy, ay⟩ := bin_at c c4
      have ay' : arV (.str y) = 2 := ay
      exact rIxL_ok upd_same hy (app (.str y) _ ((due : Int) - 1 + 2) (.inr (by rw [ay]; decide)) (by rw [ay']; omega) (by rw [ay']; omega) (same_new hp2 _))
    · have d0 : due = 0 := by omega
      subst d0
      refine ⟨ws, .inl ⟨SqL.of hp', fun t ht => ?_⟩⟩
      have htn := hS.free hD' ht
      exact q t (n + ws.length) _ (hS.upd htn _) (by rw [upd_ne (ne_of_none hD' ht)]; exact hD') (by omega) htn ⟨ws, upd_same, hw, hpd, by omega⟩
  · intro σ H' Q1 Q2 hq h
    simp only [tTest, tOp, rI0, tVar, tC] at h ⊢
    obtain ⟨v, hv, i, j, e1, e2, k, e3, h⟩ := h
    exact ⟨v, hv, i, j, e1, e2, k, e3, hq _ _ h⟩
abbrev sLean : Stmt := top 8
theorem scLean : FnScope ["cell", "many", "words", "k"] ["cell"] (defScope sLean) := ⟨rfl, rfl, rfl, by decide +kernel, rfl, by decide +kernel, by decide +kernel⟩
theorem hasLean (G : Gs w K mg) (D : Def K mg "_law_leaning" sLean ["cell"]) : Has P w K mg base (k + 1) "_law_leaning" ["cell"] spLean4 := by
  refine D.has scLean (fun vs H Q E h => ?_) (fun f cdv A outer s H vs Q E hr h => ?_)
  · obtain ⟨_, rfl, _⟩ := h
    rfl
  have nd := scLean.nd
  have hu := hu_of hr
  have hu0 := Nat.lt_of_succ_lt hu
  obtain ⟨i, rfl, q⟩ := h
  have m_int := G.m_int
  have m_range := G.m_range
  have m_tuple := G.m_tuple
  refine ⟨_, (@pss_cons _ _ _ _ _ (@ps_set _ _ 1 _ _ _ _ nd rfl (by first | exact Or.inl rfl | exact Or.inr rfl) (@pe_op _ _ _ _ _ _ _ _ (@op_mod _) (@pe_op _ _ _ _ _ _ _ _ (@op_fdiv _) (@pv _ 0 _ _ (by rfl) (by first | exact Or.inl rfl | exact Or.inr (Or.inl rfl) | exact Or.inr (Or.inr rfl)) (by decide) (by decide)) (@pe_int _ _ _ _)) (@pe_int _ _ _ _)) (by rfl) (by first | exact .inl rfl | exact .inr rfl | assumption)) (@pss_cons _ _ _ _ _ (@ps_if _ _ _ _ _ _ _ _ (@pt_cmpR _ _ _ _ _ _ _ _ (@op_eq _) (@pe_op _ _ _ _ _ _ _ _ (@op_mod _) (@pv _ 0 _ _ (by rfl) (by first | exact Or.inl rfl | exact Or.inr (Or.inl rfl) | exact Or.inr (Or.inr rfl)) (by decide) (by decide)) (@pe_int _ _ _ _)) (@pe_int _ _ _ _) (@nomark _ _ (by decide) (by decide))) (@pss_one _ _ _ (@ps_ret _ _ _ _ (@pe_callTy _ _ _ _ _ _ _ _ _ (@call_tuple_of _) rfl m_tuple b_tuple (@pa_cons _ _ _ _ _ (@pe_op _ _ _ _ _ _ _ _ (@op_cat _) (@pe_op _ _ _ _ _ _ _ _ (@op_cat _) (@pe_op _ _ _ _ _ _ _ _ (@op_rep _) (@pe_lst _ _ _ _ (@pa_cons _ _ _ _ _ (@pe_str _ _ _ _) (@pa_nil _) (by rfl))) (@pv _ 1 _ _ (by rfl) (by first | exact Or.inl rfl | exact Or.inr (Or.inl rfl) | exact Or.inr (Or.inr rfl)) (by decide) (by decide))) (@pe_lst _ _ _ _ (@pa_cons _ _ _ _ _ (@pe_str _ _ _ _) (@pa_nil _) (by rfl)))) (@pe_lc _ _ _ _ _ _ _ _ _ _ _ _ _ _ _ (@ClOk.mk _ _ ["k"] [] [] _ rfl rfl rfl rfl trivial rfl trivial) rfl (@pi_range1 _ _ _ _ _ _ rfl m_range (@pa_cons _ _ _ _ _ (@pv _ 1 _ _ (by rfl) (by first | exact Or.inl rfl | exact Or.inr (Or.inl rfl) | exact Or.inr (Or.inr rfl)) (by decide) (by decide)) (@pa_nil _) (by rfl)) (by rfl)) (fun _ _ _ => (@pg_name _ _ 0 _ (show List.Nodup (["k"] : List Str) by decide +kernel) rfl (Or.inl rfl) (by first | exact .inl rfl | exact .inr rfl | assumption))) (fun _ _ _ => (@pif0 _)) (fun _ _ _ => (@pv _ 0 _ _ (by rfl) (by first | exact Or.inl rfl | exact Or.inr (Or.inl rfl) | exact Or.inr (Or.inr rfl)) (by decide) (by decide))) (by intro _; rfl))) (@pa_nil _) (by rfl)) (by decide) (by decide) (by rfl) (by rfl)))) (@pss_nil _)) (@pss_cons _ _ _ _ _ (@ps_set _ _ 2 _ _ _ _ nd rfl (by first | exact Or.inl rfl | exact Or.inr rfl) (@pe_lst _ _ _ _ (@pa_cons _ _ _ _ _ (@pe_str _ _ _ _) (@pa_nil _) (by rfl))) (by rfl) (by first | exact .inl rfl | exact .inr rfl | assumption)) (@pss_cons _ _ _ _ _ (@ps_for _ _ _ _ _ _ _ _ PassesOwn.never rfl (@pi_range1 _ _ _ _ _ _ rfl m_range (@pa_cons _ _ _ _ _ (@pv _ 1 _ _ (by rfl) (by first | exact Or.inl rfl | exact Or.inr (Or.inl rfl) | exact Or.inr (Or.inr rfl)) (by decide) (by decide)) (@pa_nil _) (by rfl)) (by rfl)) (@pg_name _ _ 3 _ nd rfl (by first | exact Or.inl rfl | exact Or.inr rfl) (by first | exact .inl rfl | exact .inr rfl | assumption)) (@pss_one _ _ _ (@ps_set _ _ 2 _ _ _ _ nd rfl (by first | exact Or.inl rfl | exact Or.inr rfl) (@pe_op _ _ _ _ _ _ _ _ (@op_cat _) (@pe_ix _ _ _ _ _ _ _ (@ix_list _) (@pe_lst _ _ _ _ (@pa_cons _ _ _ _ _ (@pe_lst _ _ _ _ (@pa_cons _ _ _ _ _ (@pe_str _ _ _ _) (@pa_nil _) (by rfl))) (@pa_cons _ _ _ _ _ (@pe_lst _ _ _ _ (@pa_cons _ _ _ _ _ (@pe_str _ _ _ _) (@pa_cons _ _ _ _ _ (@pv _ 3 _ _ (by rfl) (by first | exact Or.inl rfl | exact Or.inr (Or.inl rfl) | exact Or.inr (Or.inr rfl)) (by decide) (by decide)) (@pa_nil _) (by rfl)) (by rfl))) (@pa_nil _) (by rfl)) (by rfl))) (@pe_callTy _ _ _ _ _ _ _ _ _ (@call_int1 _) rfl m_int b_int (@pa_cons _ _ _ _ _ (@pe_cmpR _ _ _ _ _ _ _ _ (@op_eq _) (@pe_op _ _ _ _ _ _ _ _ (@op_mod _) (@pv _ 0 _ _ (by rfl) (by first | exact Or.inl rfl | exact Or.inr (Or.inl rfl) | exact Or.inr (Or.inr rfl)) (by decide) (by decide)) (@pe_int _ _ _ _)) (@pe_int _ _ _ _) (@nomark _ _ (by decide) (by decide))) (@pa_nil _) (by rfl)) (by decide) (by decide) (by rfl) (by rfl)) (fun _ _ => rfl)) (@pv _ 2 _ _ (by rfl) (by first | exact Or.inl rfl | exact Or.inr (Or.inl rfl) | exact Or.inr (Or.inr rfl)) (by decide) (by decide))) (by rfl) (by first | exact .inl rfl | exact .inr rfl | assumption))) (by intro _; rfl)) (@pss_one _ _ _ (@ps_ret _ _ _ _ (@pe_callTy _ _ _ _ _ _ _ _ _ (@call_tuple_of _) rfl m_tuple b_tuple (@pa_cons _ _ _ _ _ (@pv _ 2 _ _ (by rfl) (by first | exact Or.inl rfl | exact Or.inr (Or.inl rfl) | exact Or.inr (Or.inr rfl)) (by decide) (by decide)) (@pa_nil _) (by rfl)) (by decide) (by decide) (by rfl) (by rfl)))))))), ?_⟩
  rw [show start ["cell", "many", "words", "k"] [.int i] = [some (.int i), none, none, none] from rfl]
  push_cast [and_true]
  have sz := sizeLine_eq
  have b0 : 0 ≤ i / 3 % 59 := Int.emod_nonneg _ (by decide)
  have b1 : i / 3 % 59 < 59 := by omega
  refine ⟨rfl, ite2 (fun c1 => ?_) fun c1 => ?_⟩
  · refine ⟨by show (1 : Nat) ≤ sizeLine; decide, fun q1 hq1 => rRep_ok upd_same b0 (by omega) fun q2 hq2 => ⟨by show (1 : Nat) ≤ sizeLine; decide, fun q3 hq3 => rCat_ok (same_new hq3 _ _ _ upd_same) upd_same (by rw [List.length_replicate]; show _ + 1 ≤ _; omega) fun q4 hq4 => ⟨by omega, by omega, fun D hD => ?_⟩⟩⟩
    have t4 := (same_new hq1 (.lst [.str (Str.ofString "sub")])).trans ((same_new hq2 (.lst (List.replicate (i / 3 % 59).toNat (.str (Str.ofString "sub"))))).trans ((same_new hq3 (.lst [.str (Str.ofString "a")])).trans (same_new hq4 (.lst (List.replicate (i / 3 % 59).toNat (.str (Str.ofString "sub")) ++ [.str (Str.ofString "a")])))))
    refine lc_range (fun j ys => ∃ is : List Int, ys = is.map V.int ∧ is.length = j ∧ ∀ i ∈ is, i.natAbs < 10 ^ 60) (by omega) hD ⟨[], rfl, rfl, fun _ h => nomatch h⟩ (fun j ys H1 G' K' hj hP hlen hS hG hK => ?_) fun ys H2 hP hlen hS hD2 => ?_
    · push_cast [and_true]
      obtain ⟨is, rfl, hyl, hyn⟩ := hP
      refine hK _ _ (Same.refl _) ⟨is ++ [0 + (j : Int)], by rw [List.map_append]; rfl, by rw [List.length_append, hyl]; rfl, fun x hx => ?_⟩
      rcases List.mem_append.mp hx with h | h
      · exact hyn x h
      · rw [List.mem_singleton.mp h]; omega
    · obtain ⟨is, rfl, hyl, hyn⟩ := hP
      have s6 := t4.trans hS
      refine rCat_ok (hS _ _ upd_same) hD2 (by rw [List.length_append, List.length_replicate, List.length_map, hyl]; show _ + 1 + _ ≤ _; omega) fun q5 hq5 => ⟨q5, rfl, _, .inl ⟨SqL.of upd_same, fun t ht => ?_⟩⟩
      have s7 := s6.upd (s6.free hq5) (.lst (List.replicate (i / 3 % 59).toNat (.str (Str.ofString "sub")) ++ [.str (Str.ofString "a")] ++ is.map V.int))
      exact q t _ (s7.upd (s7.free ht) _) (s7.free ht) ⟨_, upd_same, good_subI (by omega) (by decide +kernel) hyl hyn⟩
  · refine ⟨by show (1 : Nat) ≤ sizeLine; decide, fun q1 hq1 => ⟨by omega, by omega, ?_⟩⟩
    refine forW_range (lo := 0) (fun j σ H' => ∃ (pw : Addr) (ws : List V) (v : Option V), σ = [some (.int i), some (.int (i / 3 % 59)), some (.ref pw), v] ∧ Same H H' ∧ H' pw = some (.lst ws) ∧ goodT ws ∧ ws.length ≤ 1 + 2 * j) ⟨q1, _, none, rfl, same_new hq1 _, upd_same, good_one (by decide +kernel), Nat.le_refl _⟩ ?_ ?_
    · rintro j σ H' hj ⟨pw, ws, v, rfl, s, h, g, hlen⟩
      push_cast [and_true]
      refine ⟨by show (1 : Nat) ≤ sizeLine; decide, fun q2 hq2 => ⟨by show (2 : Nat) ≤ sizeLine; decide, fun q3 hq3 => ⟨by show (2 : Nat) ≤ sizeLine; decide, fun q4 hq4 => ⟨rfl, ?_⟩⟩⟩⟩
      have s4 := (same_new hq2 (.lst [.str (Str.ofString "neg")])).trans ((same_new hq3 (.lst [.str (Str.ofString "mul"), .int (0 + (j : Int))])).trans (same_new hq4 (.lst [.ref q2, .ref q3])))
      have h2 := same_new hq4 (.lst [.ref q2, .ref q3]) _ _ (same_new hq3 (.lst [.str (Str.ofString "mul"), .int (0 + (j : Int))]) _ _ (upd_same (H := H') (o := .lst [.str (Str.ofString "neg")])))
      have h3 := same_new hq4 (.lst [.ref q2, .ref q3]) _ _ (upd_same (H := upd H' q2 (.lst [.str (Str.ofString "neg")])) (a := q3) (o := .lst [.str (Str.ofString "mul"), .int (0 + (j : Int))]))
      have s5 := s.trans s4
      by_cases c2 : i % 3 = 2
      · rw [if_pos c2]
        refine rIxL_ok upd_same rfl (rCat_ok h3 (s4 _ _ h) (by show 2 + ws.length ≤ _; omega) fun q5 hq5 => ⟨q5, rfl, s5.upd (s5.free hq5) _, _, upd_same, good_mul g (by omega) (by omega), ?_⟩)
        rw [List.length_append]
        show 2 + ws.length ≤ _
        omega
      · rw [if_neg c2]
        refine rIxL_ok upd_same rfl (rCat_ok h2 (s4 _ _ h) (by show 1 + ws.length ≤ _; omega) fun q5 hq5 => ⟨q5, rfl, s5.upd (s5.free hq5) _, _, upd_same, good_neg1 g (by omega), ?_⟩)
        rw [List.length_append]
        show 1 + ws.length ≤ _
        omega
    · rintro σ H' ⟨pw, ws, v, rfl, s, h, g, hlen⟩
      push_cast [and_true]
      exact ⟨_, .inl ⟨SqL.of h, fun t ht => q t _ (s.upd (s.free ht) _) (s.free ht) ⟨_, upd_same, g⟩⟩⟩
abbrev sDue : Stmt := top 9
theorem scDue : FnScope ["words", "due", "parts", "place", "many", "k"] ["words"] (defScope sDue) := ⟨rfl, rfl, rfl, by decide +kernel, rfl, by decide +kernel, by decide +kernel⟩
theorem hasDue (G : Gs w K mg) (D : Def K mg "_law_due" sDue ["words"]) : Has P w K mg base (k + 1) "_law_due" ["words"] (spDue K) := by
  refine D.has scDue (fun vs H Q E h => ?_) (fun f cdv A outer s H vs Q E hr h => ?_)
  · obtain ⟨_, _, rfl, _, _, _, _, _⟩ := h
    rfl
  have nd := scDue.nd
  have hu := hu_of hr
  have hu0 := Nat.lt_of_succ_lt hu
  obtain ⟨t, ws, rfl, hT, hw, hl, hi, q⟩ := h
  have m_len := G.m_len
  have m_range := G.m_range
  have m_reversed := G.m_reversed
  refine ⟨_, (@pss_cons _ _ _ _ _ (@ps_setlc _ _ _ _ _ _ _ _ _ _ _ _ _ _ _ 1 _ _ _ nd rfl (Or.inl rfl) (@ClOk.mk _ _ ["word"] [] [] _ rfl rfl rfl rfl trivial rfl trivial) rfl (@pi_tup _ _ _ _ (@pv _ 0 _ _ (by rfl) (by first | exact Or.inl rfl | exact Or.inr (Or.inl rfl) | exact Or.inr (Or.inr rfl)) (by decide) (by decide))) (fun _ _ _ => (@pg_name _ _ 0 _ (show List.Nodup (["word"] : List Str) by decide +kernel) rfl (Or.inl rfl) (by first | exact .inl rfl | exact .inr rfl | assumption))) (fun _ _ _ => (@pif0 _)) (fun _ _ _ => (@pe_lst _ _ _ _ (@pa_nil _))) (by rfl) (by intro _; rfl) (by first | exact .inl rfl | exact .inr rfl | assumption)) (@pss_cons _ _ _ _ _ (@ps_set _ _ 2 _ _ _ _ nd rfl (by first | exact Or.inl rfl | exact Or.inr rfl) (@pe_lst _ _ _ _ (@pa_nil _)) (by rfl) (by first | exact .inl rfl | exact .inr rfl | assumption)) (@pss_cons _ _ _ _ _ (@ps_for _ _ _ _ _ _ _ _ PassesOwn.never rfl (@pi_revR _ _ _ _ _ _ rfl m_reversed (@pa_cons _ _ _ _ _ (@pe_callTy _ _ _ _ _ _ _ _ _ (@call_range1 _) rfl m_range b_range (@pa_cons _ _ _ _ _ (@pe_callB _ _ _ _ _ _ _ _ _ (@call_len_seq _) rfl m_len b_len (@pa_cons _ _ _ _ _ (@pv _ 0 _ _ (by rfl) (by first | exact Or.inl rfl | exact Or.inr (Or.inl rfl) | exact Or.inr (Or.inr rfl)) (by decide) (by decide)) (@pa_nil _) (by rfl)) (by decide) (by decide) (by rfl) (by rfl)) (@pa_nil _) (by rfl)) (by decide) (by decide) (by rfl) (by rfl)) (@pa_nil _) (by rfl)) (by rfl)) (@pg_name _ _ 3 _ nd rfl (by first | exact Or.inl rfl | exact Or.inr rfl) (by first | exact .inl rfl | exact .inr rfl | assumption)) (@pss_cons _ _ _ _ _ (@ps_set _ _ 4 _ _ _ _ nd rfl (by first | exact Or.inl rfl | exact Or.inr rfl) (@pe_int _ _ _ _) (by rfl) (by first | exact .inl rfl | exact .inr rfl | assumption)) (@pss_mid _ _ _ _ _ (@ps_if _ _ _ _ _ _ _ _ (@pt_cmpR _ _ _ _ _ _ _ _ (@op_in_seq _) (@pe_ix _ _ _ _ _ _ _ (@ix_tup _) (@pv _ 0 _ _ (by rfl) (by first | exact Or.inl rfl | exact Or.inr (Or.inl rfl) | exact Or.inr (Or.inr rfl)) (by decide) (by decide)) (@pv _ 3 _ _ (by rfl) (by first | exact Or.inl rfl | exact Or.inr (Or.inl rfl) | exact Or.inr (Or.inr rfl)) (by decide) (by decide)) (fun _ _ => rfl)) (@pe_lst _ _ _ _ (@pa_const _ _ _ (@CsOk.str _ _ _ _ _ (@CsOk.str _ _ _ _ _ (@CsOk.str _ _ _ _ _ (@CsOk.nil)))))) (by with_unfolding_all rfl)) (@pss_one _ _ _ (@ps_set _ _ 4 _ _ _ _ nd rfl (by first | exact Or.inl rfl | exact Or.inr rfl) (@pe_int _ _ _ _) (by rfl) (by first | exact .inl rfl | exact .inr rfl | assumption))) (@pss_nil _)) (@pss_mid _ _ _ _ _ (@ps_if _ _ _ _ _ _ _ _ (@pt_cmpR _ _ _ _ _ _ _ _ (@op_eq _) (@pe_ix _ _ _ _ _ _ _ (@ix_tup _) (@pv _ 0 _ _ (by rfl) (by first | exact Or.inl rfl | exact Or.inr (Or.inl rfl) | exact Or.inr (Or.inr rfl)) (by decide) (by decide)) (@pv _ 3 _ _ (by rfl) (by first | exact Or.inl rfl | exact Or.inr (Or.inl rfl) | exact Or.inr (Or.inr rfl)) (by decide) (by decide)) (fun _ _ => rfl)) (@pe_str _ _ _ _) (@nomark _ _ (by decide) (by decide))) (@pss_one _ _ _ (@ps_set _ _ 4 _ _ _ _ nd rfl (by first | exact Or.inl rfl | exact Or.inr rfl) (@pe_int _ _ _ _) (by rfl) (by first | exact .inl rfl | exact .inr rfl | assumption))) (@pss_nil _)) (@pss_cons _ _ _ _ _ (@ps_for _ _ _ _ _ _ _ _ PassesOwn.never rfl (@pi_range1 _ _ _ _ _ _ rfl m_range (@pa_cons _ _ _ _ _ (@pv _ 4 _ _ (by rfl) (by first | exact Or.inl rfl | exact Or.inr (Or.inl rfl) | exact Or.inr (Or.inr rfl)) (by decide) (by decide)) (@pa_nil _) (by rfl)) (by rfl)) (@pg_name _ _ 5 _ nd rfl (by first | exact Or.inl rfl | exact Or.inr rfl) (by first | exact .inl rfl | exact .inr rfl | assumption)) (@pss_one _ _ _ (@ps_expr _ _ _ _ (@pe_bm _ _ _ _ _ _ _ _ _ _ _ _ PySem.F.plainAttrs_list PySem.F.slot_list_append PySem.F.type_list_append (@mt_append _) (@pe_ix _ _ _ _ _ _ _ (@ix_list _) (@pv _ 1 _ _ (by rfl) (by first | exact Or.inl rfl | exact Or.inr (Or.inl rfl) | exact Or.inr (Or.inr rfl)) (by decide) (by decide)) (@pv _ 3 _ _ (by rfl) (by first | exact Or.inl rfl | exact Or.inr (Or.inl rfl) | exact Or.inr (Or.inr rfl)) (by decide) (by decide)) (fun _ _ => rfl)) (@pa_cons _ _ _ _ _ (@pe_bm0 _ _ _ _ _ _ _ _ _ PySem.F.plainAttrs_list PySem.F.slot_list_pop PySem.F.type_list_pop (@mt_pop _) (@pv _ 2 _ _ (by rfl) (by first | exact Or.inl rfl | exact Or.inr (Or.inl rfl) | exact Or.inr (Or.inr rfl)) (by decide) (by decide)) (by rfl) (by rfl)) (@pa_nil _) (by rfl)) (by rfl) (by rfl) (by rfl) (by rfl) (by rfl)) (by rfl))) (by intro _; rfl)) (@pss_one _ _ _ (@ps_expr _ _ _ _ (@pe_bm _ _ _ _ _ _ _ _ _ _ _ _ PySem.F.plainAttrs_list PySem.F.slot_list_append PySem.F.type_list_append (@mt_append _) (@pv _ 2 _ _ (by rfl) (by first | exact Or.inl rfl | exact Or.inr (Or.inl rfl) | exact Or.inr (Or.inr rfl)) (by decide) (by decide)) (@pa_cons _ _ _ _ _ (@pv _ 3 _ _ (by rfl) (by first | exact Or.inl rfl | exact Or.inr (Or.inl rfl) | exact Or.inr (Or.inr rfl)) (by decide) (by decide)) (@pa_nil _) (by rfl)) (by rfl) (by rfl) (by rfl) (by rfl) (by rfl)) (by rfl))))))) (by intro _; rfl)) (@pss_one _ _ _ (@ps_ret _ _ _ _ (@pv _ 1 _ _ (by rfl) (by first | exact Or.inl rfl | exact Or.inr (Or.inl rfl) | exact Or.inr (Or.inr rfl)) (by decide) (by decide))))))), ?_⟩
  rw [show start ["words", "due", "parts", "place", "many", "k"] [.ref t] = [some (.ref t), none, none, none, none, none] from rfl]
  push_cast [iRevR]
  have sz := sizeLine_eq
  refine ⟨⟨ws, hT⟩, fun D hD => lc_tupB (fun i ys H' => ∃ rs : List Addr, ys = rs.map V.ref ∧ rs.length = i ∧ rs.Nodup ∧ (∀ r ∈ rs, r ≠ D ∧ H r = none) ∧ Lists H' rs (fun _ => [])) ?_ hT (by omega) hD ⟨[], rfl, rfl, List.nodup_nil, (fun _ h => nomatch h), fun q hq => absurd hq (Nat.not_lt_zero _)⟩ (fun i x ys H1 G' K' hx hP hl2 hS hDl hG hK => ?_) fun ys H2 hP hl2 hS hD2 => ?_⟩
  · rintro i ys H1 H2 keep ⟨rs, e1, e2, e3, e4, e5⟩
    exact ⟨rs, e1, e2, e3, e4, fun q hq => keep _ _ (e4 _ (getD_mem hq)).1 (e5 q hq)⟩
  · push_cast [and_true]
    obtain ⟨rs, rfl, e2, e3, e4, e5⟩ := hP
    refine ⟨Nat.zero_le _, fun r hr => hK _ _ (same_new hr _) ⟨rs ++ [r], by rw [List.map_append]; rfl, by rw [List.length_append, e2]; rfl, ?_, fun x hx => ?_, e5.snoc hr⟩⟩
    · rw [List.nodup_append]
      refine ⟨e3, by simp, fun a ha b hb => ?_⟩
      rw [List.mem_singleton.mp hb]
      rintro rfl
      exact e5.out hr ha
    · rcases List.mem_append.mp hx with h | h
      · exact e4 x h
      · rw [List.mem_singleton.mp h]
        exact ⟨(ne_of_none hDl hr).symm, hS.free hr⟩
  · obtain ⟨rs, rfl, e2, e3, e4, e5⟩ := hP
    refine ⟨Nat.zero_le _, fun pp hpp => ⟨ws, .inr ((hS.upd (hS.free hpp) _).tup hT), fun l hl' => ⟨(ws.length : Int), upd_same, by omega, by omega, ?_⟩⟩⟩
    have ppD : pp ≠ D := (ne_of_none hD2 hpp).symm
    have ppr : pp ∉ rs := e5.out hpp
    have ppn : H pp = none := hS.free hpp
    have s4 : Same H (upd (upd H2 pp (.lst [])) l (.rng 0 (ws.length : Int))) := (hS.upd ppn _).trans (same_new hl' _)
    have d4 := same_new hl' (.rng 0 (ws.length : Int)) _ _ (same_new hpp (.lst []) _ _ hD2)
    have p4 := same_new hl' (.rng 0 (ws.length : Int)) _ _ (upd_same (H := H2) (a := pp) (o := .lst []))
    have l4 := (e5.same (same_new hpp (.lst []))).same (same_new hl' (.rng 0 (ws.length : Int)))
    generalize upd (upd H2 pp (.lst [])) l (.rng 0 (ws.length : Int)) = H4 at s4 d4 p4 l4 ⊢
    have har : (ws.map arV).length = ws.length := List.length_map _
    rw [show ((ws.length : Int)).toNat = ws.length by omega]
    refine forW_down (fun i σ H' => ∃ (v1 v2 v3 : Option V), σ = [some (.ref t), some (.ref D), some (.ref pp), v1, v2, v3] ∧ Same H H' ∧ H' D = some (.lst (rs.map V.ref)) ∧ H' pp = some (.lst ((starts (ws.length - i) ((ws.map arV).drop (ws.length - i))).reverse.map plV)) ∧ Lists H' rs (fun q => if ws.length - i ≤ q then belowN (ws.map arV) q else [])) ?_ ?_ ?_
    · refine ⟨none, none, none, rfl, s4, d4, ?_, l4.congr fun q hq => if_neg (by omega)⟩
      rw [List.drop_of_length_le (by omega)]
      exact p4
    · rintro i σ H5 hi' ⟨v1, v2, v3, rfl, s5, d5, p5, l5⟩
      obtain ⟨p, hp⟩ : ∃ p, p + i + 1 = ws.length := ⟨ws.length - 1 - i, by omega⟩
      rw [show ws.length - i = p + 1 by omega] at p5 l5
      rw [show ws.length - (i + 1) = p by omega, show ((ws.length : Int) - 1 - (i : Int)) = (p : Int) by omega]
      have hpl : p < ws.length := by omega
      have hx : ws[p]? = some ws[p] := List.getElem?_eq_getElem hpl
      have hxw := hw _ (List.getElem_mem hpl)
      have hat : atI ws (p : Int) = some ws[p] := atI_nat hx
      generalize ws[p] = x at hx hxw hat
      push_cast [and_true]
      have three := three_in hxw
      have ng := neg_is hxw
      have fx : flatV x = true := by
        obtain ⟨k', rfl⟩ := hxw
        exact kV_flat k'
      have sx : scal x (.str (Str.ofString "neg")) = true := by
        obtain ⟨k', rfl⟩ := hxw
        cases k' <;> rfl
      have ar2 := arV_le x
      refine tMid_of (fun σ' H1 => σ' = [some (.ref t), some (.ref D), some (.ref pp), some (.int (p : Int)), some (.int (if arV x = 2 then 2 else 0)), v3] ∧ Same H5 H1) ?_ ?_
      · push_cast [rIn]
        refine ⟨t, ws, _, x, rfl, rfl, s5.tup hT, hat, by show (3 : Nat) ≤ sizeLine; decide, fun a ha => ⟨_, .inl (SqL.of upd_same), ?_⟩⟩
        refine ⟨fx, rfl, ite2 (fun c2 => ⟨?_, same_new ha _⟩) fun c2 => ⟨?_, same_new ha _⟩⟩
        · rw [if_pos (three.mp c2)]
        · rw [if_neg fun e => c2 (three.mpr e)]
      rintro _ H6 ⟨rfl, s6⟩
      refine tMid_of (fun σ' H1 => σ' = [some (.ref t), some (.ref D), some (.ref pp), some (.int (p : Int)), some (.int (arV x : Int)), v3] ∧ Same H6 H1) ?_ ?_
      · push_cast [and_true]
        refine ⟨t, ws, _, x, rfl, rfl, (s5.trans s6).tup hT, hat, sx, ite2 (fun c3 => ⟨?_, Same.refl _⟩) fun c3 => ⟨?_, Same.refl _⟩⟩
        · have e : x = .str (Str.ofString "neg") := by first | exact c3 | exact of_decide_eq_true c3
          rw [e]
          exact (congrArg (fun n : Nat => (n : Int)) ar_neg).symm
        · have c3 : ¬ x = .str (Str.ofString "neg") := by first | exact c3 | exact fun e => c3 (decide_eq_true e)
          by_cases e : arV x = 2
          · rw [if_pos e]; omega
          · have : ¬ arV x = 1 := fun h => c3 ((ng e).mpr h)
            rw [if_neg e]; omega
      rintro _ H7 ⟨rfl, s7⟩
      push_cast [and_true]
      have s57 := s6.trans s7
      have S7 := s5.trans s57
      have d7 := s57 _ _ d5
      have p7 := s57 _ _ p5
      have l7 := l5.same s57
      clear s6 s7 s57 s5 d5 p5 l5
      obtain ⟨m', hm'⟩ := below_pend hi hx
      have Sle := pend_le _ _ hm'
      rw [List.length_map, List.length_drop] at Sle
      have Sl := starts_len _ _ (p + 1) hm'
      rw [List.map_drop] at Sl
      have ea : (ws.map arV).getD p 0 = arV x := by rw [List.getD_eq_getElem?_getD, List.getElem?_map, hx]; rfl
      have hbel : belowN (ws.map arV) p = (starts (p + 1) ((ws.map arV).drop (p + 1))).take (arV x) := by unfold belowN; rw [ea]
      have hst : starts p ((ws.map arV).drop p) = p :: (starts (p + 1) ((ws.map arV).drop (p + 1))).drop (arV x) := by rw [starts_at _ p (by omega), ea]
      generalize starts (p + 1) ((ws.map arV).drop (p + 1)) = S at Sl hbel hst p7
      refine ⟨by omega, by omega, ?_⟩
      rw [show ((arV x : Nat) : Int).toNat = arV x by omega]
      refine forW_range (lo := 0) (fun k σ H' => ∃ v : Option V, σ = [some (.ref t), some (.ref D), some (.ref pp), some (.int (p : Int)), some (.int (arV x : Int)), v] ∧ Same H H' ∧ H' D = some (.lst (rs.map V.ref)) ∧ H' pp = some (.lst ((S.drop k).reverse.map plV)) ∧ Lists H' rs (fun q => if q = p then S.take k else if p < q then belowN (ws.map arV) q else [])) ?_ ?_ ?_
      · refine ⟨v3, rfl, S7, d7, p7, l7.congr fun q hq => ?_⟩
        by_cases e : q = p
        · rw [if_pos e, if_neg (by omega)]; rfl
        · rw [if_neg e]
          by_cases e2 : p < q
          · rw [if_pos e2, if_pos (by omega)]
          · rw [if_neg e2, if_neg (by omega)]
      · rintro k σ H8 hk ⟨v, rfl, s8, d8, p8, l8⟩
        push_cast [and_true]
        have hpr : p < rs.length := by omega
        obtain ⟨rD, rn⟩ := e4 _ (getD_mem hpr)
        have rp : pp ≠ rs.getD p 0 := fun e => ppr (by rw [e]; exact getD_mem hpr)
        have hat2 : atI (rs.map V.ref) (p : Int) = some (.ref (rs.getD p 0)) := atI_nat (by rw [List.getElem?_map, List.getD_eq_getElem?_getD, List.getElem?_eq_getElem hpr]; rfl)
        have l8p : H8 (rs.getD p 0) = some (.lst ((S.take k).map plV)) := by
          have : H8 (rs.getD p 0) = some (.lst ((if p = p then S.take k else if p < p then belowN (ws.map arV) p else []).map plV)) := l8 p hpr
          rwa [if_pos rfl] at this
        have hkS : k < S.length := by omega
        have hdk : S.drop k = S[k] :: S.drop (k + 1) := List.drop_eq_getElem_cons hkS
        have p8' : H8 pp = some (.lst ((S.drop (k + 1)).reverse.map plV ++ [plV S[k]])) := by
          rw [p8, hdk, List.reverse_cons, List.map_append]
          rfl
        have etk : (S.take k).map plV ++ [plV S[k]] = (S.take (k + 1)).map plV := by
          rw [List.take_add_one, List.getElem?_eq_getElem hkS, List.map_append]
          rfl
        refine rIxL_ok d8 hat2 ⟨tyV_list l8p, pop_ok p8' (append_ok (K := K) (by rw [upd_ne rp.symm]; exact l8p) (by rw [List.length_map, List.length_take]; omega) ⟨(s8.upd ppn _).upd rn _, by rw [upd_ne rD.symm, upd_ne ppD.symm]; exact d8, by rw [upd_ne rp, upd_same], ?_⟩).2⟩
        rw [etk]
        refine ((l8.other ppr).put e3 hpr).congr fun q hq => ?_
        by_cases e : q = p
        · rw [if_pos e, if_pos e]
        · rw [if_neg e, if_neg e, if_neg e]
      · rintro σ H8 ⟨v, rfl, s8, d8, p8, l8⟩
        push_cast [and_true]
        refine append_ok p8 (by rw [List.length_map, List.length_reverse, List.length_drop]; omega) ⟨s8.upd ppn _, by rw [upd_ne ppD.symm]; exact d8, ?_, (l8.other ppr).congr fun q hq => ?_⟩
        · rw [upd_same, hst, List.reverse_cons, List.map_append]
          rfl
        · by_cases e : q = p
          · rw [if_pos e, if_pos (by omega), e, hbel]
          · rw [if_neg e]
            by_cases e2 : p < q
            · rw [if_pos e2, if_pos (by omega)]
            · rw [if_neg e2, if_neg (by omega)]
    · rintro σ H5 ⟨v1, v2, v3, rfl, s5, d5, p5, l5⟩
      push_cast [and_true]
      exact q D rs H5 s5 d5 e2 (l5.congr fun q hq => (if_pos (by omega)).symm)
abbrev sAlike : Stmt := top 10
theorem scAlike : FnScope ["found", "due"] ["found", "due"] (defScope sAlike) := ⟨rfl, rfl, rfl, by decide +kernel, rfl, by decide +kernel, by decide +kernel⟩
theorem hasAlike (G : Gs w K mg) (D : Def K mg "_law_alike" sAlike ["found", "due"]) : Has P w K mg base (k + 1) "_law_alike" ["found", "due"] spAlike := by
  refine D.has scAlike (fun vs H Q E h => ?_) (fun f cdv A outer s H vs Q E hr h => ?_)
  · obtain ⟨_, _, _, rfl, _, _, _, _⟩ := h
    rfl
  have nd := scAlike.nd
  have hu := hu_of hr
  have hu0 := Nat.lt_of_succ_lt hu
  obtain ⟨f1, d, xs, rfl, hF, hD, hl, q⟩ := h
  have m_bool := G.m_bool
  have m_int := G.m_int
  have m_isinstance := G.m_isinstance
  have m_len := G.m_len
  have m_list := G.m_list
  refine ⟨_, (@pss_cons _ _ _ _ _ (@ps_if _ _ _ _ _ _ _ _ (@PW.pt _ _ _ (@pw_or _ _ _ _ _ _ _ (@pt_not _ _ _ _ (@pt_val _ _ _ (@pe_callB _ _ _ _ _ _ _ _ _ (@call_isinst _) rfl m_isinstance b_isinstance (@pa_cons _ _ _ _ _ (@pv _ 0 _ _ (by rfl) (by first | exact Or.inl rfl | exact Or.inr (Or.inl rfl) | exact Or.inr (Or.inr rfl)) (by decide) (by decide)) (@pa_cons _ _ _ _ _ (@pe_gty _ _ _ _ m_list b_list (by rfl) (by decide +kernel) (by decide +kernel)) (@pa_nil _) (by rfl)) (by rfl)) (by decide) (by decide) (by rfl) (by rfl)) (by intro _; rfl))) (@pw_or1 _ _ _ _ (@pt_cmpR _ _ _ _ _ _ _ _ (@op_neK _ hu0) (@pv _ 0 _ _ (by rfl) (by first | exact Or.inl rfl | exact Or.inr (Or.inl rfl) | exact Or.inr (Or.inr rfl)) (by decide) (by decide)) (@pv _ 1 _ _ (by rfl) (by first | exact Or.inl rfl | exact Or.inr (Or.inl rfl) | exact Or.inr (Or.inr rfl)) (by decide) (by decide)) (@nomark _ _ (by decide) (by decide)))))) (@pss_one _ _ _ (@ps_ret _ _ _ _ (@pe_bl _ _ _ _))) (@pss_nil _)) (@pss_one _ _ _ (@ps_ret _ _ _ _ (@pe_cmpR _ _ _ _ _ _ _ _ (@op_eq _) (@pe_callB _ _ _ _ _ _ _ _ _ (@call_len_seq _) rfl m_len b_len (@pa_cons _ _ _ _ _ (@pe_lc _ _ _ _ _ _ _ _ _ _ _ _ _ _ _ (@ClOk.mk _ _ ["place"] [] [] _ rfl rfl rfl rfl trivial rfl trivial) rfl (@pi_list _ _ _ _ (@pv _ 0 _ _ (by rfl) (by first | exact Or.inl rfl | exact Or.inr (Or.inl rfl) | exact Or.inr (Or.inr rfl)) (by decide) (by decide))) (fun _ _ _ => (@pg_name _ _ 0 _ (show List.Nodup (["place"] : List Str) by decide +kernel) rfl (Or.inl rfl) (by first | exact .inl rfl | exact .inr rfl | assumption))) (fun _ _ _ => (@pif1 _ _ _ (@PW.pt _ _ _ (@pw_or _ _ _ _ _ _ _ (@pt_not _ _ _ _ (@pt_val _ _ _ (@pe_callB _ _ _ _ _ _ _ _ _ (@call_isinstK _ K rfl) rfl m_isinstance b_isinstance (@pa_cons _ _ _ _ _ (@pv _ 0 _ _ (by rfl) (by first | exact Or.inl rfl | exact Or.inr (Or.inl rfl) | exact Or.inr (Or.inr rfl)) (by decide) (by decide)) (@pa_cons _ _ _ _ _ (@pe_gty _ _ _ _ m_int b_int (by rfl) (by decide +kernel) (by decide +kernel)) (@pa_nil _) (by rfl)) (by rfl)) (by decide) (by decide) (by rfl) (by rfl)) (by intro _; rfl))) (@pw_or1 _ _ _ _ (@pt_val _ _ _ (@pe_callB _ _ _ _ _ _ _ _ _ (@call_isinstK _ K rfl) rfl m_isinstance b_isinstance (@pa_cons _ _ _ _ _ (@pv _ 0 _ _ (by rfl) (by first | exact Or.inl rfl | exact Or.inr (Or.inl rfl) | exact Or.inr (Or.inr rfl)) (by decide) (by decide)) (@pa_cons _ _ _ _ _ (@pe_gty _ _ _ _ m_bool b_bool (by rfl) (by decide +kernel) (by decide +kernel)) (@pa_nil _) (by rfl)) (by rfl)) (by decide) (by decide) (by rfl) (by rfl)) (by intro _; rfl))))))) (fun _ _ _ => (@pv _ 0 _ _ (by rfl) (by first | exact Or.inl rfl | exact Or.inr (Or.inl rfl) | exact Or.inr (Or.inr rfl)) (by decide) (by decide))) (by intro _; rfl)) (@pa_nil _) (by rfl)) (by decide) (by decide) (by rfl) (by rfl)) (@pe_int _ _ _ _) (@nomark _ _ (by decide) (by decide)))))), ?_⟩
  rw [show start ["found", "due"] [.ref f1, .ref d] = [some (.ref f1), some (.ref d)] from rfl]
  push_cast [and_true]
  have sz := sizeLine_eq
  have ek : xs.map plV = (xs.map fun q => (Sum.inl ((q : Nat) : Int) : Key)).map kV := by rw [List.map_map]; rfl
  refine ⟨_, .lst hF, true, rfl, iteF ⟨f1, d, xs.map fun q => (Sum.inl ((q : Nat) : Int) : Key), xs.map fun q => (Sum.inl ((q : Nat) : Int) : Key), rfl, rfl, .inr ⟨SqL.of (by rw [hF, ek]), SqL.of (by rw [hD, ek])⟩, _, rfl, ?_⟩⟩
  rw [if_neg (by simp)]
  refine ⟨⟨_, SqL.of hF⟩, fun D hD' => lc_list (fun i ys => ys = []) (SqL.of hF) (by rw [List.length_map]; omega) hD' rfl (fun i x ys H1 G' K' hx hP hl2 hS hG hK => ?_) fun ys H2 hP hl2 hS hD2 => ?_⟩
  · subst hP
    rw [List.getElem?_map] at hx
    obtain ⟨y, _, rfl⟩ := Option.map_eq_some_iff.mp hx
    push_cast [and_true]
    exact ⟨_, .int _, true, rfl, iteF ⟨_, .int _, false, rfl, iteF (hG _ (Same.refl _) rfl)⟩⟩
  · subst hP
    refine ⟨[], .inl (SqL.of hD2), rfl, ?_⟩
    exact q _ hS
abbrev sLaw : Stmt := top 11
theorem scLaw : FnScope ["script", "deck", "cell", "some", "words", "due", "met", "place", "found"] ["script"] (defScope sLaw) := ⟨rfl, rfl, rfl, by decide +kernel, rfl, by decide +kernel, by decide +kernel⟩
theorem hasLaw {f : Addr} {fd : FuncData} (G : Gs w K mg) (h_law_alike : Has P w K mg base k "_law_alike" ["found", "due"] spAlike) (h_law_due : Has P w K mg base k "_law_due" ["words"] (spDue K)) (h_law_leaning : Has P w K mg base k "_law_leaning" ["cell"] spLean4) (h_law_next : Has P w K mg base k "_law_next" ["deck"] spNext) (h_law_term : Has P w K mg base k "_law_term" ["deck", "most"] spTerm4) (h_below : Has P w K mg base k "below" ["words", "place"] (spBelowF K)) (F : Fun K "law" "law" sLaw f fd) : FnOk P w K mg base CX0 (k + 1) f fd ["script"] (spLaw K) := by
  refine F.ok scLaw (fun vs H Q E h => ?_) (fun cdv A outer s H vs Q E hr h => ?_)
  · obtain ⟨_, _, rfl, _, _, _⟩ := h
    rfl
  have nd := scLaw.nd
  have hu := hu_of hr
  have hu0 := Nat.lt_of_succ_lt hu
  obtain ⟨a, ns, rfl, hL, hl0, q⟩ := h
  have m_len := G.m_len
  have m_list := G.m_list
  have m_range := G.m_range
  have m_sorted := G.m_sorted
  refine ⟨_, (@pss_cons _ _ _ _ _ (@ps_set _ _ 1 _ _ _ _ nd rfl (by first | exact Or.inl rfl | exact Or.inr rfl) (@pe_lst _ _ _ _ (@pa_cons _ _ _ _ _ (@pe_callTy _ _ _ _ _ _ _ _ _ (@call_list_of _) rfl m_list b_list (@pa_cons _ _ _ _ _ (@pe_slice _ _ _ _ _ _ _ _ _ _ (@sl_list _) (@pv _ 0 _ _ (by rfl) (by first | exact Or.inl rfl | exact Or.inr (Or.inl rfl) | exact Or.inr (Or.inr rfl)) (by decide) (by decide)) (@po_none _) (@po_some _ _ _ (@pe_int _ _ _ _))) (@pa_nil _) (by rfl)) (by decide) (by decide) (by rfl) (by rfl)) (@pa_cons _ _ _ _ _ (@pe_int _ _ _ _) (@pa_nil _) (by rfl)) (by rfl))) (by rfl) (by first | exact .inl rfl | exact .inr rfl | assumption)) (@pss_cons _ _ _ _ _ (@ps_set _ _ 2 _ _ _ _ nd rfl (by first | exact Or.inl rfl | exact Or.inr rfl) (@pe_has _ _ _ _ _ _ _ _ _ _ h_law_next hr (@pa_cons _ _ _ _ _ (@pv _ 1 _ _ (by rfl) (by first | exact Or.inl rfl | exact Or.inr (Or.inl rfl) | exact Or.inr (Or.inr rfl)) (by decide) (by decide)) (@pa_nil _) (by rfl)) (by rfl) (by decide +kernel) (by rfl) (by rfl)) (by rfl) (by first | exact .inl rfl | exact .inr rfl | assumption)) (@pss_cons _ _ _ _ _ (@ps_set _ _ 3 _ _ _ _ nd rfl (by first | exact Or.inl rfl | exact Or.inr rfl) (@pe_lst _ _ _ _ (@pa_cons _ _ _ _ _ (@pe_has _ _ _ _ _ _ _ _ _ _ h_law_term hr (@pa_cons _ _ _ _ _ (@pv _ 1 _ _ (by rfl) (by first | exact Or.inl rfl | exact Or.inr (Or.inl rfl) | exact Or.inr (Or.inr rfl)) (by decide) (by decide)) (@pa_cons _ _ _ _ _ (@pe_ix _ _ _ _ _ _ _ (@ix_list _) (@pe_lst _ _ _ _ (@pa_cons _ _ _ _ _ (@pe_int _ _ _ _) (@pa_cons _ _ _ _ _ (@pe_op _ _ _ _ _ _ _ _ (@op_add _) (@pe_int _ _ _ _) (@pe_op _ _ _ _ _ _ _ _ (@op_mod _) (@pe_op _ _ _ _ _ _ _ _ (@op_fdiv _) (@pv _ 2 _ _ (by rfl) (by first | exact Or.inl rfl | exact Or.inr (Or.inl rfl) | exact Or.inr (Or.inr rfl)) (by decide) (by decide)) (@pe_int _ _ _ _)) (@pe_int _ _ _ _))) (@pa_nil _) (by rfl)) (by rfl))) (@pe_op _ _ _ _ _ _ _ _ (@op_mod _) (@pv _ 2 _ _ (by rfl) (by first | exact Or.inl rfl | exact Or.inr (Or.inl rfl) | exact Or.inr (Or.inr rfl)) (by decide) (by decide)) (@pe_int _ _ _ _)) (fun _ _ => rfl)) (@pa_nil _) (by rfl)) (by rfl)) (by rfl) (by decide +kernel) (by rfl) (by rfl)) (@pa_cons _ _ _ _ _ (@pe_has _ _ _ _ _ _ _ _ _ _ h_law_leaning hr (@pa_cons _ _ _ _ _ (@pe_has _ _ _ _ _ _ _ _ _ _ h_law_next hr (@pa_cons _ _ _ _ _ (@pv _ 1 _ _ (by rfl) (by first | exact Or.inl rfl | exact Or.inr (Or.inl rfl) | exact Or.inr (Or.inr rfl)) (by decide) (by decide)) (@pa_nil _) (by rfl)) (by rfl) (by decide +kernel) (by rfl) (by rfl)) (@pa_nil _) (by rfl)) (by rfl) (by decide +kernel) (by rfl) (by rfl)) (@pa_nil _) (by rfl)) (by rfl))) (by rfl) (by first | exact .inl rfl | exact .inr rfl | assumption)) (@pss_cons _ _ _ _ _ (@ps_for _ _ _ _ _ _ _ _ PassesOwn.never rfl (@pi_list _ _ _ _ (@pv _ 3 _ _ (by rfl) (by first | exact Or.inl rfl | exact Or.inr (Or.inl rfl) | exact Or.inr (Or.inr rfl)) (by decide) (by decide))) (@pg_name _ _ 4 _ nd rfl (by first | exact Or.inl rfl | exact Or.inr rfl) (by first | exact .inl rfl | exact .inr rfl | assumption)) (@pss_cons _ _ _ _ _ (@ps_set _ _ 5 _ _ _ _ nd rfl (by first | exact Or.inl rfl | exact Or.inr rfl) (@pe_has _ _ _ _ _ _ _ _ _ _ h_law_due hr (@pa_cons _ _ _ _ _ (@pv _ 4 _ _ (by rfl) (by first | exact Or.inl rfl | exact Or.inr (Or.inl rfl) | exact Or.inr (Or.inr rfl)) (by decide) (by decide)) (@pa_nil _) (by rfl)) (by rfl) (by decide +kernel) (by rfl) (by rfl)) (by rfl) (by first | exact .inl rfl | exact .inr rfl | assumption)) (@pss_cons _ _ _ _ _ (@ps_set _ _ 6 _ _ _ _ nd rfl (by first | exact Or.inl rfl | exact Or.inr rfl) (@pe_lst _ _ _ _ (@pa_nil _)) (by rfl) (by first | exact .inl rfl | exact .inr rfl | assumption)) (@pss_cons _ _ _ _ _ (@ps_for _ _ _ _ _ _ _ _ PassesOwn.never rfl (@pi_range1 _ _ _ _ _ _ rfl m_range (@pa_cons _ _ _ _ _ (@pe_callB _ _ _ _ _ _ _ _ _ (@call_len_seq _) rfl m_len b_len (@pa_cons _ _ _ _ _ (@pv _ 4 _ _ (by rfl) (by first | exact Or.inl rfl | exact Or.inr (Or.inl rfl) | exact Or.inr (Or.inr rfl)) (by decide) (by decide)) (@pa_nil _) (by rfl)) (by decide) (by decide) (by rfl) (by rfl)) (@pa_nil _) (by rfl)) (by rfl)) (@pg_name _ _ 7 _ nd rfl (by first | exact Or.inl rfl | exact Or.inr rfl) (by first | exact .inl rfl | exact .inr rfl | assumption)) (@pss_cons _ _ _ _ _ (@ps_set _ _ 8 _ _ _ _ nd rfl (by first | exact Or.inl rfl | exact Or.inr rfl) (@pe_has _ _ _ _ _ _ _ _ _ _ h_below hr (@pa_cons _ _ _ _ _ (@pv _ 4 _ _ (by rfl) (by first | exact Or.inl rfl | exact Or.inr (Or.inl rfl) | exact Or.inr (Or.inr rfl)) (by decide) (by decide)) (@pa_cons _ _ _ _ _ (@pv _ 7 _ _ (by rfl) (by first | exact Or.inl rfl | exact Or.inr (Or.inl rfl) | exact Or.inr (Or.inr rfl)) (by decide) (by decide)) (@pa_nil _) (by rfl)) (by rfl)) (by rfl) (by decide +kernel) (by rfl) (by rfl)) (by rfl) (by first | exact .inl rfl | exact .inr rfl | assumption)) (@pss_cons _ _ _ _ _ (@ps_if _ _ _ _ _ _ _ _ (@pt_not _ _ _ _ (@pt_val _ _ _ (@pe_has _ _ _ _ _ _ _ _ _ _ h_law_alike hr (@pa_cons _ _ _ _ _ (@pv _ 8 _ _ (by rfl) (by first | exact Or.inl rfl | exact Or.inr (Or.inl rfl) | exact Or.inr (Or.inr rfl)) (by decide) (by decide)) (@pa_cons _ _ _ _ _ (@pe_ix _ _ _ _ _ _ _ (@ix_list _) (@pv _ 5 _ _ (by rfl) (by first | exact Or.inl rfl | exact Or.inr (Or.inl rfl) | exact Or.inr (Or.inr rfl)) (by decide) (by decide)) (@pv _ 7 _ _ (by rfl) (by first | exact Or.inl rfl | exact Or.inr (Or.inl rfl) | exact Or.inr (Or.inr rfl)) (by decide) (by decide)) (fun _ _ => rfl)) (@pa_nil _) (by rfl)) (by rfl)) (by rfl) (by decide +kernel) (by rfl) (by rfl)) (by intro _; rfl))) (@pss_one _ _ _ (@ps_ret _ _ _ _ (@pe_bl _ _ _ _))) (@pss_nil _)) (@pss_cons _ _ _ _ _ (@ps_set _ _ 6 _ _ _ _ nd rfl (by first | exact Or.inl rfl | exact Or.inr rfl) (@pe_op _ _ _ _ _ _ _ _ (@op_cat _) (@pv _ 6 _ _ (by rfl) (by first | exact Or.inl rfl | exact Or.inr (Or.inl rfl) | exact Or.inr (Or.inr rfl)) (by decide) (by decide)) (@pv _ 8 _ _ (by rfl) (by first | exact Or.inl rfl | exact Or.inr (Or.inl rfl) | exact Or.inr (Or.inr rfl)) (by decide) (by decide))) (by rfl) (by first | exact .inl rfl | exact .inr rfl | assumption)) (@pss_cons _ _ _ _ _ (@ps_expr _ _ _ _ (@pe_bm _ _ _ _ _ _ _ _ _ _ _ _ PySem.F.plainAttrs_list PySem.F.slot_list_append PySem.F.type_list_append (@mt_append _) (@pv _ 8 _ _ (by rfl) (by first | exact Or.inl rfl | exact Or.inr (Or.inl rfl) | exact Or.inr (Or.inr rfl)) (by decide) (by decide)) (@pa_cons _ _ _ _ _ (@pe_int _ _ _ _) (@pa_nil _) (by rfl)) (by rfl) (by rfl) (by rfl) (by rfl) (by rfl)) (by rfl)) (@pss_one _ _ _ (@ps_if _ _ _ _ _ _ _ _ (@pt_not _ _ _ _ (@pt_val _ _ _ (@pe_has _ _ _ _ _ _ _ _ _ _ h_law_alike hr (@pa_cons _ _ _ _ _ (@pe_has _ _ _ _ _ _ _ _ _ _ h_below hr (@pa_cons _ _ _ _ _ (@pv _ 4 _ _ (by rfl) (by first | exact Or.inl rfl | exact Or.inr (Or.inl rfl) | exact Or.inr (Or.inr rfl)) (by decide) (by decide)) (@pa_cons _ _ _ _ _ (@pv _ 7 _ _ (by rfl) (by first | exact Or.inl rfl | exact Or.inr (Or.inl rfl) | exact Or.inr (Or.inr rfl)) (by decide) (by decide)) (@pa_nil _) (by rfl)) (by rfl)) (by rfl) (by decide +kernel) (by rfl) (by rfl)) (@pa_cons _ _ _ _ _ (@pe_ix _ _ _ _ _ _ _ (@ix_list _) (@pv _ 5 _ _ (by rfl) (by first | exact Or.inl rfl | exact Or.inr (Or.inl rfl) | exact Or.inr (Or.inr rfl)) (by decide) (by decide)) (@pv _ 7 _ _ (by rfl) (by first | exact Or.inl rfl | exact Or.inr (Or.inl rfl) | exact Or.inr (Or.inr rfl)) (by decide) (by decide)) (fun _ _ => rfl)) (@pa_nil _) (by rfl)) (by rfl)) (by rfl) (by decide +kernel) (by rfl) (by rfl)) (by intro _; rfl))) (@pss_one _ _ _ (@ps_ret _ _ _ _ (@pe_bl _ _ _ _))) (@pss_nil _))))))) (by intro _; rfl)) (@pss_one _ _ _ (@ps_if _ _ _ _ _ _ _ _ (@pt_cmpR _ _ _ _ _ _ _ _ (@op_neK _ hu0) (@pe_callB _ _ _ _ _ _ _ _ _ (@call_sortedI _) rfl m_sorted b_sorted (@pa_cons _ _ _ _ _ (@pv _ 6 _ _ (by rfl) (by first | exact Or.inl rfl | exact Or.inr (Or.inl rfl) | exact Or.inr (Or.inr rfl)) (by decide) (by decide)) (@pa_nil _) (by rfl)) (by decide) (by decide) (by rfl) (by rfl)) (@pe_callTy _ _ _ _ _ _ _ _ _ (@call_list_rng2 _ rfl) rfl m_list b_list (@pa_cons _ _ _ _ _ (@pe_callTy _ _ _ _ _ _ _ _ _ (@call_range2 _) rfl m_range b_range (@pa_cons _ _ _ _ _ (@pe_int _ _ _ _) (@pa_cons _ _ _ _ _ (@pe_callB _ _ _ _ _ _ _ _ _ (@call_len_seq _) rfl m_len b_len (@pa_cons _ _ _ _ _ (@pv _ 4 _ _ (by rfl) (by first | exact Or.inl rfl | exact Or.inr (Or.inl rfl) | exact Or.inr (Or.inr rfl)) (by decide) (by decide)) (@pa_nil _) (by rfl)) (by decide) (by decide) (by rfl) (by rfl)) (@pa_nil _) (by rfl)) (by rfl)) (by decide) (by decide) (by rfl) (by rfl)) (@pa_nil _) (by rfl)) (by decide) (by decide) (by rfl) (by rfl)) (@nomark _ _ (by decide) (by decide))) (@pss_one _ _ _ (@ps_ret _ _ _ _ (@pe_bl _ _ _ _))) (@pss_nil _)))))) (by intro _; rfl)) (@pss_one _ _ _ (@ps_ret _ _ _ _ (@pe_bl _ _ _ _))))))), ?_⟩
  rw [show start ["script", "deck", "cell", "some", "words", "due", "met", "place", "found"] [.ref a] = [some (.ref a), none, none, none, none, none, none, none, none] from rfl]
  push_cast [spAlike, spDue, spLean4, spNext, spTerm4, spBelowF]
  have sz := sizeLine_eq
  obtain ⟨ms, em, hms⟩ := cut_ints ns none (some 130)
  refine ⟨ns.map V.int, hL, fun p hp => ?_⟩
  rw [em]
  refine ⟨ms.map V.int, .inl (SqL.of upd_same), fun l hl => ⟨by show (2 : Nat) ≤ sizeLine; decide, fun d hd => ⟨l, ms, 0, ⟨upd_same, same_new hd _ _ _ upd_same⟩, by decide, fun c H1 s1 d1 => ?_⟩⟩⟩
  have D1 : Deck H1 d l ms 1 := Deck.next ⟨upd_same, same_new hd _ _ _ upd_same⟩ s1 d1
  refine ⟨by show (2 : Nat) ≤ sizeLine; decide, fun p2 hp2 => ?_⟩
  obtain ⟨m, hm1, hm2, hat⟩ : ∃ m : Nat, 1 ≤ m ∧ m ≤ 200 ∧ atI [V.int 120, V.int (1 + c / 2 % 15)] (c % 2) = some (.int (m : Int)) := by
    have a0 : 0 ≤ c / 2 % 15 := Int.emod_nonneg _ (by decide)
    rcases (show c % 2 = ((0 : Nat) : Int) ∨ c % 2 = ((1 : Nat) : Int) by omega) with e | e
    · rw [e]
      exact ⟨120, by decide, by decide, atI_nat rfl⟩
    · rw [e]
      exact ⟨(1 + c / 2 % 15).toNat, by omega, by omega, (atI_nat rfl).trans (by rw [show (((1 + c / 2 % 15).toNat : Nat) : Int) = 1 + c / 2 % 15 by omega])⟩
  have D1' : Deck (upd H1 p2 (.lst [V.int 120, V.int (1 + c / 2 % 15)])) d l ms 1 := ⟨same_new hp2 _ _ _ D1.1, same_new hp2 _ _ _ D1.2⟩
  refine rIxL_ok upd_same hat ⟨l, ms, m, rfl, 1, D1', hm1, hm2, by decide, fun t1 n1 H2 s2 d2 hn1 ht1 hT1 => ?_⟩
  have D2 := D1'.next s2 d2
  refine ⟨l, ms, n1, D2, by omega, fun c2 H3 s3 d3 t2 H4 s4 ht2 hT2 => ⟨by show (2 : Nat) ≤ sizeLine; decide, fun so hso => ⟨⟨_, SqL.of upd_same⟩, ?_⟩⟩⟩
  have T1 := ((hT1.sameB D2 s3).same s4).same (same_new hso (.lst [.ref t1, .ref t2]))
  have T2 := hT2.same (same_new hso (.lst [.ref t1, .ref t2]))
  have so5 : upd H4 so (.lst [.ref t1, .ref t2]) so = some (.lst [.ref t1, .ref t2]) := upd_same
  generalize upd H4 so (.lst [.ref t1, .ref t2]) = H5 at T1 T2 so5 ⊢
  refine forW_list (xs := [.ref t1, .ref t2]) (fun i σ H' => ∃ v4 v5 v6 v7 v8 : Option V, σ = [some (.ref a), some (.ref d), some (.int c), some (.ref so), v4, v5, v6, v7, v8] ∧ Same H5 H') ⟨none, none, none, none, none, rfl, Same.refl _⟩ (fun i σ H' _ h => by obtain ⟨_, _, _, _, _, _, s⟩ := h; exact SqL.of (s _ _ so5)) ?_ ?_
  · rintro i x σ H6 hx ⟨v4, v5, v6, v7, v8, rfl, s6⟩
    obtain ⟨t, rfl, ws, hT, hok, hTm, hlen⟩ : ∃ t, x = .ref t ∧ ∃ ws, H6 t = some (.tup ws) ∧ (∀ v ∈ ws, okW v) ∧ isTerm ws ∧ ws.length ≤ 200 := by
      rcases i with _ | _ | i
      · cases hx
        obtain ⟨ws, w1, w2, w3, w4⟩ := T1
        exact ⟨t1, rfl, ws, s6 _ _ w1, w2, w3, by omega⟩
      · cases hx
        obtain ⟨ws, w1, w2, w3, w4⟩ := T2
        exact ⟨t2, rfl, ws, s6 _ _ w1, w2, w3, w4⟩
      · cases hx
    have hI : ∀ v ∈ ws, isW v := fun v hv => (hok v hv).isW
    push_cast [spDue]
    refine ⟨ws, SqT.of hT, hI, by omega, hTm, fun D rs H7 s7 hD hrl hLs => ⟨Nat.zero_le _, fun mt hmt => ⟨ws, .inr (SqT.of (same_new hmt _ _ _ (s7 _ _ hT))), by omega, by omega, ?_⟩⟩⟩
    rw [show (((ws.length : Nat) : Int)).toNat = ws.length by omega]
    have S8 := s7.trans (same_new hmt (.lst []))
    have hT8 := S8 _ _ hT
    have D8 := same_new hmt (.lst []) _ _ hD
    have L8 := hLs.same (same_new hmt (.lst []))
    have m8 : upd H7 mt (.lst []) mt = some (.lst []) := upd_same
    generalize upd H7 mt (.lst []) = H8 at S8 hT8 D8 L8 m8 ⊢
    refine forW_range (lo := 0) (fun j σ H' => ∃ (pm : Addr) (v7 v8 : Option V), σ = [some (.ref a), some (.ref d), some (.int c), some (.ref so), some (.ref t), some (.ref D), some (.ref pm), v7, v8] ∧ Same H8 H' ∧ H' pm = some (.lst (((List.range j).flatMap (belowN (ws.map arV))).map plV))) ⟨mt, v7, v8, rfl, Same.refl _, m8⟩ ?_ ?_
    · rintro j σ H9 hj ⟨pm, w7, w8, rfl, s9, m9⟩
      push_cast [spBelowF, spAlike]
      have hjr : j < rs.length := by omega
      have hat2 : atI (rs.map V.ref) (0 + (j : Int)) = some (.ref (rs.getD j 0)) := by
        rw [show (0 + (j : Int)) = ((j : Nat) : Int) by omega]
        exact atI_nat (by rw [List.getElem?_map, List.getD_eq_getElem?_getD, List.getElem?_eq_getElem hjr]; rfl)
      have b2 := below_two ws j
      have bf := below_flat ws j
      refine ⟨ws, j, by omega, SqT.of (s9 _ _ hT8), hI, by omega, hTm, by omega, fun f1 H10 s10 hf1 h10 => ?_⟩
      have S10 := s9.trans s10
      refine rIxL_ok (S10 _ _ D8) hat2 ⟨rs.getD j 0, rfl, belowN (ws.map arV) j, h10, S10 _ _ (L8 j hjr), by omega, fun H11 s11 => iteF ?_⟩
      have S11 := S10.trans s11
      have m11 := s11 _ _ (s10 _ _ m9)
      have f11 := s11 _ _ h10
      refine rCat_ok m11 f11 (by rw [List.length_map, List.length_map]; omega) fun pm2 hpm2 => append_ok (same_new hpm2 _ _ _ f11) (by rw [List.length_map]; omega) ?_
      have npf : pm2 ≠ f1 := (ne_of_none f11 hpm2).symm
      have S13 := (S11.trans (same_new hpm2 (.lst (((List.range j).flatMap (belowN (ws.map arV))).map plV ++ (belowN (ws.map arV) j).map fun q => V.int ((q : Nat) : Int))))).upd (s9.free hf1) (.lst ((belowN (ws.map arV) j).map (fun q => V.int ((q : Nat) : Int)) ++ [V.int 7]))
      have m13 : upd (upd H11 pm2 (.lst (((List.range j).flatMap (belowN (ws.map arV))).map plV ++ (belowN (ws.map arV) j).map fun q => V.int ((q : Nat) : Int)))) f1 (.lst ((belowN (ws.map arV) j).map (fun q => V.int ((q : Nat) : Int)) ++ [V.int 7])) pm2 = some (.lst (((List.range (j + 1)).flatMap (belowN (ws.map arV))).map plV)) := by
        rw [upd_ne npf, upd_same, List.range_succ, List.flatMap_append, List.map_append]
        show _ = some (HO.lst (_ ++ List.map plV (belowN (ws.map arV) j ++ [])))
        rw [List.append_nil]
      generalize upd (upd H11 pm2 (.lst (((List.range j).flatMap (belowN (ws.map arV))).map plV ++ (belowN (ws.map arV) j).map fun q => V.int ((q : Nat) : Int)))) f1 (.lst ((belowN (ws.map arV) j).map (fun q => V.int ((q : Nat) : Int)) ++ [V.int 7])) = H13 at S13 m13 ⊢
      refine ⟨ws, j, by omega, SqT.of (S13 _ _ hT8), hI, by omega, hTm, by omega, fun f2 H14 s14 hf2 h14 => ?_⟩
      have S14 := S13.trans s14
      exact rIxL_ok (S14 _ _ D8) hat2 ⟨rs.getD j 0, rfl, belowN (ws.map arV) j, h14, S14 _ _ (L8 j hjr), by omega, fun H15 s15 => iteF ⟨pm2, rfl, S14.trans s15, s15 _ _ (s14 _ _ m13)⟩⟩
    · rintro σ H9 ⟨pm, w7, w8, rfl, s9, m9⟩
      push_cast [and_true]
      have bf := below_flat ws ws.length
      have hpos : 0 < ws.length := by
        rcases Nat.eq_zero_or_pos ws.length with h | h
        · rw [List.eq_nil_of_length_eq_zero h] at hTm
          cases hTm
        · exact h
      refine ⟨((List.range ws.length).flatMap (belowN (ws.map arV))).map fun q => ((q : Nat) : Int), SqL.of (by rw [m9, List.map_map]; rfl), by rw [List.length_map]; omega, fun lm ms' hp' hs' hlm => ⟨ws, .inr (SqT.of (same_new hlm _ _ _ (s9 _ _ hT8))), fun l1 hl1 => ⟨1, (ws.length : Int), upd_same, by decide, by omega, by omega, fun l2 hl2 => ?_⟩⟩⟩
      have el : (ws.map arV).length = ws.length := List.length_map _
      have em' := below_sorted (ar := ws.map arV) hTm hs' (by rw [el]; exact hp')
      rw [el] at em'
      subst em'
      have en : ((ws.length : Int) - 1).toNat = ws.length - 1 := by omega
      have k1 := same_new hl2 (.lst ((List.range ((ws.length : Int) - 1).toNat).map fun k => V.int (1 + ((k : Nat) : Int)))) _ _ (same_new hl1 (.rng 1 (ws.length : Int)) _ _ (upd_same (H := H9) (a := lm) (o := .lst (((List.range (ws.length - 1)).map fun i => 1 + ((i : Nat) : Int)).map V.int))))
      refine ⟨lm, l2, (List.range (ws.length - 1)).map fun k => (Sum.inl (1 + ((k : Nat) : Int)) : Key), (List.range (ws.length - 1)).map fun k => (Sum.inl (1 + ((k : Nat) : Int)) : Key), rfl, rfl, .inr ⟨SqL.of (by rw [k1, List.map_map, List.map_map]; rfl), SqL.of (by rw [upd_same, en, List.map_map]; rfl)⟩, _, rfl, ?_⟩
      rw [if_neg (by simp)]
      exact (((s6.trans S8).trans s9).trans (same_new hlm _)).trans ((same_new hl1 _).trans (same_new hl2 _))
  · rintro σ H6 ⟨v4, v5, v6, v7, v8, rfl, s6⟩
    push_cast [and_true]
    exact q _
end
end K04
namespace K04
open PySem PySem.Spec L2 PyProof.Rows Pc
theorem all_mk {l : PySem.W.OpenLaw} {w : World} {K : PySem.W.Frag} {h : Heap} {mg : Str → Option Value} {fa : Addr} (X : K.In h) (G : h.Ns mainGlobals mg) (hfa : mg "law" = some (.ref fa))
    {f0 f1 f2 f3 f4 f5 f6 f7 f8 g0 : Addr} {od0 an0 od1 an1 od2 an2 od3 an3 od4 an4 od5 an5 od6 an6 od7 an7 od8 an8 : Option Addr} {sl0 sl1 sl2 sl3 sl4 sl5 sl6 sl7 sl8 : Array (Option Value)} {oc0 kV0 dc0 pm0 cd0 ct0 oc1 kV1 dc1 pm1 cd1 ct1 oc2 kV2 dc2 pm2 cd2 ct2 oc3 kV3 dc3 pm3 cd3 ct3 oc4 kV4 dc4 pm4 cd4 ct4 oc5 kV5 dc5 pm5 cd5 ct5 oc6 kV6 dc6 pm6 cd6 ct6 oc7 kV7 dc7 pm7 cd7 ct7 oc8 kV8 dc8 pm8 cd8 ct8 : Value} {dt0x0 dt0x1 dt0x2 dt0x3 du0x0 du0x1 du0x2 du0x3 dp0 : Nat} {dh0x0 dh0x1 dh0x2 dh0x3 : Int}
    (a0 : PySem.W.nsIn K mainGlobals "how_many_below" = some (some (.ref f0)))
    (l0 : K.lookup f0 = some ⟨oc0, od0, .func (PySem.W.fnOf "how_many_below" "how_many_below" (defArgs sHow) (defBody sHow) (defScope sHow) .none kV0 dc0 pm0 an0 cd0 ct0), sl0⟩)
    (c0 : PySem.W.codeIn K cd0 "how_many_below" = true)
    (k0 : PySem.W.keepIn K (.ref f0) = true)
    (a1 : PySem.W.nsIn K mainGlobals "place_behind" = some (some (.ref f1)))
    (l1 : K.lookup f1 = some ⟨oc1, od1, .func (PySem.W.fnOf "place_behind" "place_behind" (defArgs sBehind) (defBody sBehind) (defScope sBehind) .none kV1 dc1 pm1 an1 cd1 ct1), sl1⟩)
    (c1 : PySem.W.codeIn K cd1 "place_behind" = true)
    (k1 : PySem.W.keepIn K (.ref f1) = true)
    (a2 : PySem.W.nsIn K mainGlobals "below" = some (some (.ref f2)))
    (l2 : K.lookup f2 = some ⟨oc2, od2, .func (PySem.W.fnOf "below" "below" (defArgs sBelow) (defBody sBelow) (defScope sBelow) .none kV2 dc2 pm2 an2 cd2 ct2), sl2⟩)
    (c2 : PySem.W.codeIn K cd2 "below" = true)
    (k2 : PySem.W.keepIn K (.ref f2) = true)
    (a3 : PySem.W.nsIn K mainGlobals "_law_next" = some (some (.ref f3)))
    (l3 : K.lookup f3 = some ⟨oc3, od3, .func (PySem.W.fnOf "_law_next" "_law_next" (defArgs sNext) (defBody sNext) (defScope sNext) .none kV3 dc3 pm3 an3 cd3 ct3), sl3⟩)
    (c3 : PySem.W.codeIn K cd3 "_law_next" = true)
    (k3 : PySem.W.keepIn K (.ref f3) = true)
    (a4 : PySem.W.nsIn K mainGlobals "_law_term" = some (some (.ref f4)))
    (l4 : K.lookup f4 = some ⟨oc4, od4, .func (PySem.W.fnOf "_law_term" "_law_term" (defArgs sTerm) (defBody sTerm) (defScope sTerm) .none kV4 dc4 pm4 an4 cd4 ct4), sl4⟩)
    (c4 : PySem.W.codeIn K cd4 "_law_term" = true)
    (k4 : PySem.W.keepIn K (.ref f4) = true)
    (a5 : PySem.W.nsIn K mainGlobals "_law_leaning" = some (some (.ref f5)))
    (l5 : K.lookup f5 = some ⟨oc5, od5, .func (PySem.W.fnOf "_law_leaning" "_law_leaning" (defArgs sLean) (defBody sLean) (defScope sLean) .none kV5 dc5 pm5 an5 cd5 ct5), sl5⟩)
    (c5 : PySem.W.codeIn K cd5 "_law_leaning" = true)
    (k5 : PySem.W.keepIn K (.ref f5) = true)
    (a6 : PySem.W.nsIn K mainGlobals "_law_due" = some (some (.ref f6)))
    (l6 : K.lookup f6 = some ⟨oc6, od6, .func (PySem.W.fnOf "_law_due" "_law_due" (defArgs sDue) (defBody sDue) (defScope sDue) .none kV6 dc6 pm6 an6 cd6 ct6), sl6⟩)
    (c6 : PySem.W.codeIn K cd6 "_law_due" = true)
    (k6 : PySem.W.keepIn K (.ref f6) = true)
    (a7 : PySem.W.nsIn K mainGlobals "_law_alike" = some (some (.ref f7)))
    (l7 : K.lookup f7 = some ⟨oc7, od7, .func (PySem.W.fnOf "_law_alike" "_law_alike" (defArgs sAlike) (defBody sAlike) (defScope sAlike) .none kV7 dc7 pm7 an7 cd7 ct7), sl7⟩)
    (c7 : PySem.W.codeIn K cd7 "_law_alike" = true)
    (k7 : PySem.W.keepIn K (.ref f7) = true)
    (a8 : PySem.W.nsIn K mainGlobals "law" = some (some (.ref f8)))
    (l8 : K.lookup f8 = some ⟨oc8, od8, .func (PySem.W.fnOf "law" "law" (defArgs sLaw) (defBody sLaw) (defScope sLaw) .none kV8 dc8 pm8 an8 cd8 ct8), sl8⟩)
    (c8 : PySem.W.codeIn K cd8 "law" = true)
    (k8 : PySem.W.keepIn K (.ref f8) = true)
    (z0 : PySem.W.nsIn K mainGlobals "bool" = some none)
    (z1 : PySem.W.nsIn K mainGlobals "int" = some none)
    (z2 : PySem.W.nsIn K mainGlobals "isinstance" = some none)
    (z3 : PySem.W.nsIn K mainGlobals "len" = some none)
    (z4 : PySem.W.nsIn K mainGlobals "list" = some none)
    (z5 : PySem.W.nsIn K mainGlobals "range" = some none)
    (z6 : PySem.W.nsIn K mainGlobals "reversed" = some none)
    (z7 : PySem.W.nsIn K mainGlobals "sorted" = some none)
    (z8 : PySem.W.nsIn K mainGlobals "sum" = some none)
    (z9 : PySem.W.nsIn K mainGlobals "tuple" = some none)
    (y0 : PySem.W.nsIn K mainGlobals "PARTS_BELOW" = some (some (.ref g0)))
    (x0 : K.lookup g0 = some ⟨.type "dict", none, .dict #[⟨dh0x0, .str "add" dt0x0, .int 2 du0x0⟩, ⟨dh0x1, .str "sub" dt0x1, .int 2 du0x1⟩, ⟨dh0x2, .str "mul" dt0x2, .int 2 du0x2⟩, ⟨dh0x3, .str "neg" dt0x3, .int 1 du0x3⟩] dp0, #[]⟩)
    (hh0x0 : dh0x0 = hashStr w "add")
    (hh0x1 : dh0x1 = hashStr w "sub")
    (hh0x2 : dh0x2 = hashStr w "mul")
    (hh0x3 : dh0x3 = hashStr w "neg")
    (ha0 : (g0 == sysModules) = false) :
    ∃ fd : FuncData, (∀ (s : Shared) (v : Value), BindsTo s fd ⟨[v], []⟩ [("script", v)]) ∧ ∀ base : Heap, K.In base → base.Ns mainGlobals mg → FnOk l.prog w K mg base CX0 4 fa fd ["script"] (spLaw K) := by
  have e := hfa.symm.trans (PySem.W.mg_of X G a8)
  cases e
  have G0 : Gs w K mg := ⟨PySem.W.mg_none_of X G z0, PySem.W.mg_none_of X G z1, PySem.W.mg_none_of X G z2, PySem.W.mg_none_of X G z3, PySem.W.mg_none_of X G z4, PySem.W.mg_none_of X G z5, PySem.W.mg_none_of X G z6, PySem.W.mg_none_of X G z7, PySem.W.mg_none_of X G z8, PySem.W.mg_none_of X G z9, ⟨g0, PySem.W.mg_of X G y0, modD_mk [(dh0x0, "add", dt0x0, 2, du0x0), (dh0x1, "sub", dt0x1, 2, du0x1), (dh0x2, "mul", dt0x2, 2, du0x2), (dh0x3, "neg", dt0x3, 1, du0x3)] x0 ha0 (by intro e he; simp only [List.mem_cons, List.not_mem_nil, or_false] at he; rcases he with rfl | rfl | rfl | rfl <;> assumption) (by show List.Nodup ([Sum.inr "add", Sum.inr "sub", Sum.inr "mul", Sum.inr "neg"] : List Key); decide +kernel)⟩⟩
  have F0 := fun_mk (st := sHow) l0 c0 k0
  have D0 : Def K mg "how_many_below" sHow ["word"] := ⟨f0, _, F0, F0.binds (ps := ["word"]) (fun _ _ _ _ _ _ us hl => match us, hl with | [_], _ => rfl), PySem.W.mg_of X G a0⟩
  have F1 := fun_mk (st := sBehind) l1 c1 k1
  have D1 : Def K mg "place_behind" sBehind ["words", "place"] := ⟨f1, _, F1, F1.binds (ps := ["words", "place"]) (fun _ _ _ _ _ _ us hl => match us, hl with | [_, _], _ => rfl), PySem.W.mg_of X G a1⟩
  have F2 := fun_mk (st := sBelow) l2 c2 k2
  have D2 : Def K mg "below" sBelow ["words", "place"] := ⟨f2, _, F2, F2.binds (ps := ["words", "place"]) (fun _ _ _ _ _ _ us hl => match us, hl with | [_, _], _ => rfl), PySem.W.mg_of X G a2⟩
  have F3 := fun_mk (st := sNext) l3 c3 k3
  have D3 : Def K mg "_law_next" sNext ["deck"] := ⟨f3, _, F3, F3.binds (ps := ["deck"]) (fun _ _ _ _ _ _ us hl => match us, hl with | [_], _ => rfl), PySem.W.mg_of X G a3⟩
  have F4 := fun_mk (st := sTerm) l4 c4 k4
  have D4 : Def K mg "_law_term" sTerm ["deck", "most"] := ⟨f4, _, F4, F4.binds (ps := ["deck", "most"]) (fun _ _ _ _ _ _ us hl => match us, hl with | [_, _], _ => rfl), PySem.W.mg_of X G a4⟩
  have F5 := fun_mk (st := sLean) l5 c5 k5
  have D5 : Def K mg "_law_leaning" sLean ["cell"] := ⟨f5, _, F5, F5.binds (ps := ["cell"]) (fun _ _ _ _ _ _ us hl => match us, hl with | [_], _ => rfl), PySem.W.mg_of X G a5⟩
  have F6 := fun_mk (st := sDue) l6 c6 k6
  have D6 : Def K mg "_law_due" sDue ["words"] := ⟨f6, _, F6, F6.binds (ps := ["words"]) (fun _ _ _ _ _ _ us hl => match us, hl with | [_], _ => rfl), PySem.W.mg_of X G a6⟩
  have F7 := fun_mk (st := sAlike) l7 c7 k7
  have D7 : Def K mg "_law_alike" sAlike ["found", "due"] := ⟨f7, _, F7, F7.binds (ps := ["found", "due"]) (fun _ _ _ _ _ _ us hl => match us, hl with | [_, _], _ => rfl), PySem.W.mg_of X G a7⟩
  have F8 := fun_mk (st := sLaw) l8 c8 k8
  refine ⟨PySem.W.fnOf "law" "law" (defArgs sLaw) (defBody sLaw) (defScope sLaw) .none kV8 dc8 pm8 an8 cd8 ct8, fun s v => .of_eq rfl, fun base _ _ => ?_⟩
  have H0 : Has l.prog w K mg base 1 "how_many_below" ["word"] spHow := hasHow (k := 0) G0   D0
  have H1 : Has l.prog w K mg base 2 "place_behind" ["words", "place"] (spBehind K) := hasBehind (k := 1) G0 (H0.up (by decide))  D1
  have H2 : Has l.prog w K mg base 3 "below" ["words", "place"] (spBelowF K) := hasBelow (k := 2) G0 (H0.up (by decide)) (H1.up (by decide))  D2
  have H3 : Has l.prog w K mg base 1 "_law_next" ["deck"] spNext := hasNext (k := 0) G0   D3
  have H4 : Has l.prog w K mg base 2 "_law_term" ["deck", "most"] spTerm4 := hasTerm (k := 1) G0 (H3.up (by decide))  D4
  have H5 : Has l.prog w K mg base 1 "_law_leaning" ["cell"] spLean4 := hasLean (k := 0) G0   D5
  have H6 : Has l.prog w K mg base 1 "_law_due" ["words"] (spDue K) := hasDue (k := 0) G0   D6
  have H7 : Has l.prog w K mg base 1 "_law_alike" ["found", "due"] spAlike := hasAlike (k := 0) G0   D7
  exact hasLaw (k := 3) G0 (H7.up (by decide)) (H6.up (by decide)) (H5.up (by decide)) (H3.up (by decide)) (H4.up (by decide)) (H2.up (by decide))  F8
theorem walk {l : PySem.W.OpenLaw} {q : Program} {loose : List Str} {XP : (Str → Option Value) → Heap → Prop} {YP : World → Heap → Prop} {d : DefRec} {K : Params → PySem.W.Frag} (hn : l.most = some 63) (hdf : d.params.defaults = [])
    (hY : ∀ (w : World) (h : Heap), YP w h → (K w.params).In h)
    (F : ∀ (w : World) (mg : Str → Option Value) (fa : Addr) (h : Heap), (K w.params).In h → h.Ns mainGlobals mg → mg d.name = some (.ref fa) →
      ∃ fd : FuncData, (∀ (s : Shared) (u : Value), BindsTo s fd ⟨[u], []⟩ [("script", u)]) ∧ ∀ base : Heap, (K w.params).In base → base.Ns mainGlobals mg → FnOk l.prog w (K w.params) mg base CX0 4 fa fd ["script"] (spLaw (K w.params))) :
    PySem.W.WalkO q loose XP YP l.row.toRowW d [] (fun f vs => PySem.call f vs) :=
  L2.walk_of (n := 63) (k := 4) (x := "script") (CX := fun _ => CX0) (sp := fun w => spLaw (K w.params)) hn (by decide) hdf ⟨rfl, by decide, by decide⟩ hY F (fun _ _ a ns hl _ hS => ⟨a, ns, rfl, hS, hl, fun _ => rfl⟩) fun _ _ _ _ _ z => z
end K04
open PySem PySem.W PyProof.Rows
set_option maxRecDepth 100000 in
set_option maxHeartbeats 0 in
theorem PySem.Challenge.cw_pricecover_k04_below_holds : PySem.Challenge.rw_pricecover_k04_below.Holds := by
  w_on; o_law; k_head; (case hw => w_witness2)
  k_fill
  refine K04.walk (l := PySem.Challenge.rw_pricecover_k04_below) rfl rfl (fun w h Y => PySem.W.kIn_of Y) ?F
  case F =>
    intro w mg fa h KX G hmg
    refine' K04.all_mk KX G hmg ?a0 ?l0 ?c0 ?k0 ?a1 ?l1 ?c1 ?k1 ?a2 ?l2 ?c2 ?k2 ?a3 ?l3 ?c3 ?k3 ?a4 ?l4 ?c4 ?k4 ?a5 ?l5 ?c5 ?k5 ?a6 ?l6 ?c6 ?k6 ?a7 ?l7 ?c7 ?k7 ?a8 ?l8 ?c8 ?k8 ?z0 ?z1 ?z2 ?z3 ?z4 ?z5 ?z6 ?z7 ?z8 ?z9 ?y0 ?x0 ?hh0x0 ?hh0x1 ?hh0x2 ?hh0x3 ?ha0
    (case a0 => k_is)
    (case l0 => k_is)
    (case c0 => k_is)
    (case k0 => k_is)
    (case a1 => k_is)
    (case l1 => k_is)
    (case c1 => k_is)
    (case k1 => k_is)
    (case a2 => k_is)
    (case l2 => k_is)
    (case c2 => k_is)
    (case k2 => k_is)
    (case a3 => k_is)
    (case l3 => k_is)
    (case c3 => k_is)
    (case k3 => k_is)
    (case a4 => k_is)
    (case l4 => k_is)
    (case c4 => k_is)
    (case k4 => k_is)
    (case a5 => k_is)
    (case l5 => k_is)
    (case c5 => k_is)
    (case k5 => k_is)
    (case a6 => k_is)
    (case l6 => k_is)
    (case c6 => k_is)
    (case k6 => k_is)
    (case a7 => k_is)
    (case l7 => k_is)
    (case c7 => k_is)
    (case k7 => k_is)
    (case a8 => k_is)
    (case l8 => k_is)
    (case c8 => k_is)
    (case k8 => k_is)
    (case z0 => k_is)
    (case z1 => k_is)
    (case z2 => k_is)
    (case z3 => k_is)
    (case z4 => k_is)
    (case z5 => k_is)
    (case z6 => k_is)
    (case z7 => k_is)
    (case z8 => k_is)
    (case z9 => k_is)
    (case y0 => k_is)
    (case x0 => k_is)
    (case hh0x0 => first | rfl | k_is)
    (case hh0x1 => first | rfl | k_is)
    (case hh0x2 => first | rfl | k_is)
    (case hh0x3 => first | rfl | k_is)
    (case ha0 => first | rfl | decide | k_is)
#print axioms PySem.Challenge.cw_pricecover_k04_below_holds
