import PyProof.Rows.All
import Wide.All
import OpenK.AllK
import Wide.FinOn
import Lean
import PyProof.EqAt
import PyProof.EqKinds
import PyProof.TupleCall
import KE.KSortTup
import PyProof.EnumMake
import PyProof.EnumStmt
import PyProof.ListRange
import KE.KDictList
import PyProof.Rows.SortPure
import PyProof.Rows.SortRuns
import KE.KRevIter
import PySem.Challenge.RW_pricecover_k41_fit
set_option Elab.async false
set_option linter.all false
set_option maxRecDepth 100000
set_option maxHeartbeats 4000000
namespace L2
open PySem PySem.Spec PyProof.Rows
abbrev Key := Sum Int Str
def keyIs : Key → Value → Bool
  | .inl k, v => Value.isInt k v
  | .inr x, v => Value.isStrOf x v
def keyH (w : World) : Key → Int
  | .inl k => hashInt k
  | .inr x => hashStr w x
theorem keyIs_shape : ∀ {k : Key} {v : Value}, keyIs k v = true → (∃ i t, k = Sum.inl i ∧ v = Value.int i t) ∨ (∃ x t, k = Sum.inr x ∧ v = Value.str x t)
  | .inl i, v, h => by
    obtain ⟨t, e⟩ := Value.isInt_shape (k := i) (v := v) h
    exact .inl ⟨i, t, rfl, e⟩
  | .inr x, v, h => by
    obtain ⟨t, e⟩ := Value.isStrOf_shape (x := x) (v := v) h
    exact .inr ⟨x, t, rfl, e⟩
theorem keyIs_int (i : Int) (t : Tok) : keyIs (.inl i) (.int i t) = true := by simp [keyIs, Value.isInt]
theorem keyIs_str (x : Str) (t : Tok) : keyIs (.inr x) (.str x t) = true := by simp [keyIs, Value.isStrOf]
theorem key_ll (a b : Int) : decide ((Sum.inl a : Key) = Sum.inl b) = (a == b) := by
  by_cases e : a = b
  · subst e; simp
  · have h : ¬ (Sum.inl a : Key) = Sum.inl b := fun q => e (Sum.inl.inj q)
    rw [decide_eq_false h]
    exact (beq_eq_false_iff_ne.mpr e).symm
theorem key_rr (a b : Str) : decide ((Sum.inr a : Key) = Sum.inr b) = decide (a = b) := by
  by_cases e : a = b
  · subst e; simp
  · have h : ¬ (Sum.inr a : Key) = Sum.inr b := fun q => e (Sum.inr.inj q)
    rw [decide_eq_false h, decide_eq_false e]
theorem key_lr (a : Int) (b : Str) : decide ((Sum.inl a : Key) = Sum.inr b) = false := decide_eq_false (fun q => nomatch q)
theorem key_rl (a : Str) (b : Int) : decide ((Sum.inr a : Key) = Sum.inl b) = false := decide_eq_false (fun q => nomatch q)
def mixKind (prog : Program) (w : World) : PySem.KeyKind prog w Key where
  is := keyIs
  hash := keyH w
  inj := fun v a b ha hb => by
    rcases keyIs_shape ha with ⟨i, t, rfl, rfl⟩ | ⟨x, t, rfl, rfl⟩
    · rcases keyIs_shape hb with ⟨j, u, rfl, e⟩ | ⟨y, u, rfl, e⟩
      · injection e with e1 _; rw [e1]
      · exact nomatch e
    · rcases keyIs_shape hb with ⟨j, u, rfl, e⟩ | ⟨y, u, rfl, e⟩
      · exact nomatch e
      · injection e with e1 _; rw [e1]
  byValue := fun k v h => by
    rcases keyIs_shape h with ⟨i, t, rfl, rfl⟩ | ⟨x, t, rfl, rfl⟩ <;> rfl
  pyHash := fun hv h => by
    rcases keyIs_shape hv with ⟨i, t, rfl, rfl⟩ | ⟨x, t, rfl, rfl⟩
    · exact wpAny_pyHash_int h
    · exact wpAny_pyHash_str h
  eqBool := fun hu hv h => by
    rcases keyIs_shape hu with ⟨i, t, rfl, rfl⟩ | ⟨x, t, rfl, rfl⟩
    · rcases keyIs_shape hv with ⟨j, u, rfl, rfl⟩ | ⟨y, u, rfl, rfl⟩
      · rw [key_ll] at h; exact wpAny_eqBool_int h
      · rw [key_lr] at h; exact SeqAt.EqAt.int_str i t y u _ _ _ _ h
    · rcases keyIs_shape hv with ⟨j, u, rfl, rfl⟩ | ⟨y, u, rfl, rfl⟩
      · rw [key_rl] at h; exact SeqAt.EqAt.str_int x t j u _ _ _ _ h
      · rw [key_rr] at h; exact wpAny_eqBool_str h
  «strs» := fun k x t v h => by
    rcases keyIs_shape h with ⟨i, u, rfl, e⟩ | ⟨y, u, rfl, e⟩
    · exact nomatch e
    · injection e with e1 _
      subst e1
      cases v <;> rfl
theorem mixKind_int (prog : Program) (w : World) (i : Int) (t : Tok) : (mixKind prog w).is (.inl i) (.int i t) = true := keyIs_int i t
theorem mixKind_str (prog : Program) (w : World) (x : Str) (t : Tok) : (mixKind prog w).is (.inr x) (.str x t) = true := keyIs_str x t
end L2
namespace L2
open PySem PySem.Spec PyProof.Rows
inductive V where
  | non | bl (b : Bool) | int (i : Int) | str (x : Str) | byt (b : Array UInt8) | flt (b : UInt64) | ref (a : Addr) | ty (n : String)
  deriving DecidableEq
def RelV : V → Value → Prop
  | .non, u => u = Value.none
  | .bl b, u => u = Value.bool b
  | .int i, u => ∃ t, u = Value.int i t
  | .str x, u => ∃ t, u = Value.str x t
  | .byt b, u => ∃ t, u = Value.bytes b t
  | .flt b, u => ∃ t, u = Value.float b t
  | .ref a, u => u = Value.ref a
  | .ty n, u => u = Value.type n
abbrev Vals : List V → List Value → Prop := Paired RelV
theorem Vals.length {xs : List V} {us : List Value} (r : Vals xs us) : xs.length = us.length := Paired.length r
theorem Vals.get : ∀ {xs : List V} {us : List Value} {i : Nat} {x : V}, Vals xs us → xs[i]? = some x → ∃ u, us[i]? = some u ∧ RelV x u
  | _, _, _, _, .nil, e => by simp at e
  | _, _, 0, _, .cons r _, e => by simp at e; subst e; exact ⟨_, rfl, r⟩
  | _, _, i + 1, x, .cons _ t, e => by
    obtain ⟨u, h1, h2⟩ := Vals.get (i := i) (x := x) t (by simpa using e)
    exact ⟨u, by simpa using h1, h2⟩
theorem Vals.set {x : V} {u : Value} (r : RelV x u) : ∀ {xs : List V} {us : List Value} (i : Nat), Vals xs us → Vals (xs.set i x) (us.set i u)
  | _, _, _, .nil => .nil
  | _, _, 0, .cons _ t => .cons r t
  | _, _, i + 1, .cons q t => .cons q (Vals.set r i t)
theorem Vals.append : ∀ {xs ys : List V} {us ws : List Value}, Vals xs us → Vals ys ws → Vals (xs ++ ys) (us ++ ws)
  | _, _, _, _, .nil, s => s
  | _, _, _, _, .cons r t, s => .cons r (Vals.append t s)
theorem Vals.take : ∀ {xs : List V} {us : List Value} (n : Nat), Vals xs us → Vals (xs.take n) (us.take n)
  | _, _, 0, _ => .nil
  | _, _, _ + 1, .nil => .nil
  | _, _, n + 1, .cons r t => .cons r (Vals.take n t)
theorem Vals.drop : ∀ {xs : List V} {us : List Value} (n : Nat), Vals xs us → Vals (xs.drop n) (us.drop n)
  | _, _, 0, r => r
  | _, _, _ + 1, .nil => .nil
  | _, _, n + 1, .cons _ t => Vals.drop n t
def RelO : Option V → Option Value → Prop
  | some v, some u => RelV v u
  | none, none => True
  | _, _ => False
def KV {κ : Type} : List (κ × V) → List (κ × Value) → Prop := Paired fun (p : κ × V) (q : κ × Value) => p.1 = q.1 ∧ RelV p.2 q.2
def kV : Key → V
  | .inl i => .int i
  | .inr x => .str x
inductive HO where
    | lst (xs : List V)
    | tup (xs : List V)
    | dK (kvs : List (Key × V)) | dT (kvs : List (List Key × V))
    | set (S : Int → Bool) (n : Nat)
    | ins (C dx : Addr) (fs : List (Str × V))
    | own (x : Addr)
    | xd (fs : List (Str × V))
    | met (f x : Addr)
    | rng (lo hi : Int)
    | frz (o : Obj) (u : HO)
    | tbl (ps : Array Value)
    | ext (φ : Heap → Prop)
abbrev Hp := Addr → Option HO
def upd (H : Hp) (a : Addr) (o : HO) : Hp := fun b => if b = a then some o else H b
theorem upd_same {H : Hp} {a : Addr} {o : HO} : upd H a o a = some o := by unfold upd; rw [if_pos rfl]
theorem upd_ne {H : Hp} {a b : Addr} {o : HO} (h : b ≠ a) : upd H a o b = H b := by unfold upd; rw [if_neg h]
theorem ne_of {H : Hp} {a b : Addr} {o u : HO} (h : H a = some o) (h' : H b = some u) (d : o ≠ u) : a ≠ b := by
  intro e; subst e; rw [h] at h'; exact d (Option.some.inj h')
theorem ne_of_none {H : Hp} {a b : Addr} {o : HO} (h : H a = some o) (h' : H b = none) : a ≠ b := by
  intro e; subst e; rw [h] at h'; cases h'
section
variable (P : Program) (w : World)
def IsTupD (h : Heap) (a : Addr) (its : Array Value) : Prop := ∃ o, h.get? a = some o ∧ o.cls = .type "tuple" ∧ ∃ n, o.data = .seq its n ∧ o.dict = none
theorem IsTupD.tup {h : Heap} {a : Addr} {its : Array Value} (x : IsTupD h a its) : IsTup h a its := let ⟨o, h1, h2, n, h3, _⟩ := x; ⟨o, h1, h2, n, h3⟩
def ObjOk (H : Hp) (h : Heap) (a : Addr) : HO → Prop
  | .lst xs => xs.length ≤ sizeLine ∧ ∃ (its : List Value) (n : Nat), Vals xs its ∧ h.get? a = some { cls := .type "list", data := .seq its.toArray n }
  | .tup xs => xs.length ≤ sizeLine ∧ ∃ its : List Value, Vals xs its ∧ IsTupD h a its.toArray
  | .dK kvs => kvs.length ≤ sizeLine ∧ (a == sysModules) = false ∧ ∃ vs, KV kvs vs ∧ h.DictOf (mixKind P w) a vs
  | .dT kvs => kvs.length ≤ sizeLine ∧ (a == sysModules) = false ∧ ∃ xs : List (List Key × Addr × Value),
      Paired (fun (p : List Key × V) (q : List Key × Addr × Value) => p.1 = q.1 ∧ H q.2.1 = some (.tup (p.1.map kV)) ∧ RelV p.2 q.2.2) kvs xs ∧
      ∃ o es ep, h.get? a = some o ∧ o.ExactDict ∧ o.data = .dict es ep ∧ es.toList = xs.map (entryOfKey (tupleKind (mixKind P w))) ∧ (xs.map (·.1)).Nodup
  | .set S n => h.SetOf (intKind P w) a S n
  | .ins C dx fs => H dx = some (.own a) ∧ fs.length ≤ 1000 ∧ dx ≠ a ∧ h.get? a = some (PySem.W.instObj C dx) ∧
      ∃ mA, h.Ns1 dx mA ∧ (∀ f, RelO (fs.lookup f) (mA f)) ∧ PySem.Within mA (fs.map (·.1))
  | .own _ => ∃ o, h.get? a = some o
  | .xd fs => ∃ mA, h.Ns1 a mA ∧ ∀ f, RelO (fs.lookup f) (mA f)
  | .rng lo hi => ∃ t u v, h.get? a = some { cls := .type "range", data := .fields #[.int lo t, .int hi u, .int 1 v] }
  | .frz o u => h.get? a = some o ∧ ObjOk H h a u
  | .tbl ps => h.get? a = some { cls := .none, data := .fields ps }
  | .met f x => h.get? a = some (PySem.W.methodObj (.ref f) (.ref x))
  | .ext φ => φ h ∧ (∃ o, h.get? a = some o) ∧ ∀ h1 h2 : Heap, φ h1 → (∀ o, h1.get? a = some o → h2.get? a = some o) → φ h2
def HOk (H : Hp) (h : Heap) : Prop := ∀ a o, H a = some o → ObjOk P w H h a o
end
section
variable {P : Program} {w : World} {H H' : Hp} {h h' : Heap} {a : Addr} {o : HO}
theorem ObjOk.lt (x : ObjOk P w H h a o) : a < h.objs.size := by
  cases o with
  | lst xs => obtain ⟨_, _, _, _, e⟩ := x; exact Heap.lt_size e
  | tup xs => obtain ⟨_, _, _, p⟩ := x; exact p.tup.lt
  | dK kvs => obtain ⟨_, _, _, _, o, _, _, e, _⟩ := x; exact Heap.lt_size e
  | dT kvs => obtain ⟨_, _, _, _, o, _, _, e, _⟩ := x; exact Heap.lt_size e
  | set S n => obtain ⟨o, _, _, _, e, _⟩ := x; exact Heap.lt_size e
  | ins C dx fs => obtain ⟨_, _, _, e, _⟩ := x; exact Heap.lt_size e
  | own y => obtain ⟨_, e⟩ := x; exact Heap.lt_size e
  | xd fs => obtain ⟨_, ⟨_, _, _, e, _⟩, _⟩ := x; exact Heap.lt_size e
  | rng lo hi => obtain ⟨_, _, _, e⟩ := x; exact Heap.lt_size e
  | frz ob u => obtain ⟨e, _⟩ := x; exact Heap.lt_size e
  | tbl ps => exact Heap.lt_size (show h.get? a = some _ from x)
  | met f y => exact Heap.lt_size (show h.get? a = some _ from x)
  | ext φ => obtain ⟨_, ⟨_, e⟩, _⟩ := x; exact Heap.lt_size e
theorem Paired.mapP {α β : Type} {F G : α → β → Prop} : ∀ {l₁ : List α} {l₂ : List β}, Paired F l₁ l₂ → (∀ a b, F a b → G a b) → Paired G l₁ l₂
  | _, _, .nil, _ => .nil
  | _, _, .cons r t, f => .cons (f _ _ r) (Paired.mapP t f)
theorem ObjOk.stay (x : ObjOk P w H h a o) (k : ∀ b u, (b = a ∨ H b = some (.own a)) → h.get? b = some u → h'.get? b = some u)
    (ho : ∀ b, H b = some (.own a) → H' b = some (.own a)) (ht : ∀ b xs, H b = some (.tup xs) → H' b = some (.tup xs)) : ObjOk P w H' h' a o := by
  induction o with
  | lst xs => obtain ⟨z, its, n, r, e⟩ := x; exact ⟨z, its, n, r, k _ _ (.inl rfl) e⟩
  | tup xs => obtain ⟨z, its, r, ob, e, c⟩ := x; exact ⟨z, its, r, ob, k _ _ (.inl rfl) e, c⟩
  | dK kvs => obtain ⟨z, y, vs, r, ob, es, ep, e, c⟩ := x; exact ⟨z, y, vs, r, ob, es, ep, k _ _ (.inl rfl) e, c⟩
  | dT kvs =>
    obtain ⟨z, y, xs, r, ob, es, ep, e, c⟩ := x
    exact ⟨z, y, xs, Paired.mapP r fun p q z => ⟨z.1, ht _ _ z.2.1, z.2.2⟩, ob, es, ep, k _ _ (.inl rfl) e, c⟩
  | set S n => obtain ⟨ob, es, ep, t, e, c⟩ := x; exact ⟨ob, es, ep, t, k _ _ (.inl rfl) e, c⟩
  | ins C dx fs =>
    obtain ⟨d, z, ne, e, mA, ⟨od, es, ep, e2, c⟩, r⟩ := x
    exact ⟨ho _ d, z, ne, k _ _ (.inl rfl) e, mA, ⟨od, es, ep, k _ _ (.inr d) e2, c⟩, r⟩
  | own y => obtain ⟨ob, e⟩ := x; exact ⟨ob, k _ _ (.inl rfl) e⟩
  | xd fs => obtain ⟨mA, ⟨od, es, ep, e, c⟩, r⟩ := x; exact ⟨mA, ⟨od, es, ep, k _ _ (.inl rfl) e, c⟩, r⟩
  | rng lo hi => obtain ⟨t, u, v, e⟩ := x; exact ⟨t, u, v, k _ _ (.inl rfl) e⟩
  | frz ob u ih => obtain ⟨e, q⟩ := x; exact ⟨k _ _ (.inl rfl) e, ih q⟩
  | tbl ps =>
    have e : h.get? a = some { cls := .none, data := .fields ps } := x
    show h'.get? a = some { cls := .none, data := .fields ps }
    exact k a _ (.inl rfl) e
  | met f y =>
    have e : h.get? a = some (PySem.W.methodObj (.ref f) (.ref y)) := x
    show h'.get? a = some (PySem.W.methodObj (.ref f) (.ref y))
    exact k a _ (.inl rfl) e
  | ext φ => obtain ⟨p, ⟨o, e⟩, st⟩ := x; exact ⟨st _ _ p fun o q => k _ _ (.inl rfl) q, ⟨o, k _ _ (.inl rfl) e⟩, st⟩
theorem HOk.lt (x : HOk P w H h) (e : H a = some o) : a < h.objs.size := (x a o e).lt
theorem HOk.fresh (x : HOk P w H h) (e : h.objs.size ≤ a) : H a = none := by
  cases q : H a with
  | none => rfl
  | some u => exact absurd (Nat.lt_of_lt_of_le (x.lt q) e) (Nat.lt_irrefl _)
theorem HOk.kept (x : HOk P w H h) (k : ∀ b u, h.get? b = some u → h'.get? b = some u) : HOk P w H h' := fun a o e =>
  (x a o e).stay (fun b u _ q => k b u q) (fun _ q => q) fun _ _ q => q
theorem HOk.laid (x : HOk P w H h) (k : ∀ b u, h.get? b = some u → h'.get? b = some u) (hp : h.objs.size ≤ a) (new : ObjOk P w (upd H a o) h' a o) : HOk P w (upd H a o) h' := fun b u e => by
  have hn := x.fresh hp
  by_cases hb : b = a
  · subst hb; rw [upd_same] at e; cases e; exact new
  · rw [upd_ne hb] at e
    exact (x b u e).stay (fun c v _ q => k c v q) (fun c q => by rw [upd_ne (ne_of_none q hn)]; exact q) fun c xs q => by rw [upd_ne (ne_of_none q hn)]; exact q
end
def Rd (H : Hp) (a : Addr) (u : HO) : Prop := H a = some u ∨ ∃ o, H a = some (.frz o u)
theorem Rd.of {H : Hp} {a : Addr} {u : HO} (h : H a = some u) : Rd H a u := .inl h
theorem Rd.ok {P : Program} {w : World} {H : Hp} {h : Heap} {a : Addr} {u : HO} (r : Rd H a u) (x : HOk P w H h) : ObjOk P w H h a u := by
  rcases r with r | ⟨o, r⟩
  · exact x a u r
  · obtain ⟨_, q⟩ := x a _ r
    exact q
def Mut : Option HO → Prop
  | some (.lst _) => True
  | some (.dK _) => True
  | some (.dT _) => True
  | some (.set _ _) => True
  | some (.ins _ _ _) => True
  | some (.ext _) => True
  | _ => False
section
variable {P : Program} {w : World} {H : Hp} {h h' : Heap} {x e : Addr} {o' : HO}
theorem HOk.write (ok : HOk P w H h) (mu : Mut (H x)) (he : e = x ∨ H e = some (.own x)) (k : ∀ b u, b ≠ e → h.get? b = some u → h'.get? b = some u) (heo : ∃ u, h'.get? e = some u)
    (new : ObjOk P w (upd H x o') h' x o') : HOk P w (upd H x o') h' := fun b u q => by
  have nown : ∀ c y, H c = some (.own y) → c ≠ x := fun c y r z => by subst z; rw [r] at mu; exact mu
  have ntup : ∀ c xs, H c = some (.tup xs) → c ≠ x := fun c xs r z => by subst z; rw [r] at mu; exact mu
  by_cases hb : b = x
  · subst hb; rw [upd_same] at q; cases q; exact new
  · rw [upd_ne hb] at q
    by_cases hbe : b = e
    · have q' : H b = some (.own x) := by
        rcases he with z | z
        · exact absurd (hbe.trans z) hb
        · rw [hbe]; exact z
      rw [q] at q'; cases q'
      obtain ⟨v, hv⟩ := heo
      exact ⟨v, by rw [hbe]; exact hv⟩
    · refine (ok b u q).stay (fun c v hc r => k c v ?_ r) (fun c r => by rw [upd_ne (nown c b r)]; exact r) fun c xs r => by rw [upd_ne (ntup c xs r)]; exact r
      rcases hc with rfl | hc
      · exact hbe
      · rintro rfl
        rcases he with z | z
        · exact nown c b hc z
        · rw [hc] at z; cases z; exact hb rfl
end
structure Un (fs ex : List Addr) (H H' : Hp) (h h' : Heap) : Prop where
  keep : ∀ b o, h.get? b = some o → H b = none → b ∉ fs → b ∉ ex → h'.get? b = some o
  slot : ∀ b o, h.get? b = some o → H b = none → b ∈ fs → b ∉ ex → ∃ sl, h'.get? b = some { o with slots := sl }
  free : ∀ b o, h.get? b = some o → H b = none → b ∉ ex → H' b = none
  there : ∀ b o, h.get? b = some o → b ∉ ex → ∃ o', h'.get? b = some o'
  tups : ∀ b xs, H b = some (.tup xs) → H' b = some (.tup xs)
  frzs : ∀ b o u, H b = some (.frz o u) → H' b = some (.frz o u)
  tbls : ∀ b ps, H b = some (.tbl ps) → ∃ more, H' b = some (.tbl (ps ++ more))
section
variable {fs fs' ex ex' : List Addr} {H H1 H2 : Hp} {h h1 h2 h' : Heap} {a x e : Addr} {o : HO}
theorem Un.any (u : Un fs ex H H1 h h1) {b : Addr} {ob : Obj} (q : h.get? b = some ob) (n : H b = none) (hx : b ∉ ex) : ∃ sl, h1.get? b = some { ob with slots := sl } := by
  by_cases hb : b ∈ fs
  · exact u.slot b ob q n hb hx
  · exact ⟨ob.slots, u.keep b ob q n hb hx⟩
theorem Un.trans (a : Un fs ex H H1 h h1) (b : Un fs ex H1 H2 h1 h2) : Un fs ex H H2 h h2 where
  keep := fun c ob q n hc hx => b.keep c ob (a.keep c ob q n hc hx) (a.free c ob q n hx) hc hx
  slot := fun c ob q n hc hx => by
    obtain ⟨sl, e1⟩ := a.slot c ob q n hc hx
    obtain ⟨sl', e2⟩ := b.slot c _ e1 (a.free c ob q n hx) hc hx
    exact ⟨sl', e2⟩
  free := fun c ob q n hx => by
    obtain ⟨o', e1⟩ := a.there c ob q hx
    exact b.free c o' e1 (a.free c ob q n hx) hx
  there := fun c ob q hx => by
    obtain ⟨o', e1⟩ := a.there c ob q hx
    exact b.there c o' e1 hx
  tups := fun c xs q => b.tups c xs (a.tups c xs q)
  frzs := fun c ob xs q => b.frzs c ob xs (a.frzs c ob xs q)
  tbls := fun c ps q => by
    obtain ⟨m1, e1⟩ := a.tbls c ps q
    obtain ⟨m2, e2⟩ := b.tbls c _ e1
    exact ⟨m1 ++ m2, by rw [e2, Array.append_assoc]⟩
theorem Un.kept (k : ∀ b u, h.get? b = some u → h'.get? b = some u) : Un fs ex H H h h' :=
  ⟨fun b ob q _ _ _ => k b ob q, fun b ob q _ _ _ => ⟨ob.slots, k b ob q⟩, fun _ _ _ n _ => n, fun b ob q _ => ⟨ob, k b ob q⟩, fun _ _ q => q, fun _ _ _ q => q, fun _ ps q => ⟨#[], by rw [q]; simp⟩⟩
theorem Un.refl : Un fs ex H H h h := Un.kept fun _ _ q => q
theorem Un.laid (k : ∀ b u, h.get? b = some u → h'.get? b = some u) (hp : h.objs.size ≤ a) (hn : H a = none) : Un fs ex H (upd H a o) h h' where
  keep := fun b u q _ _ _ => k b u q
  slot := fun b u q _ _ _ => ⟨u.slots, k b u q⟩
  free := fun b u q n _ => by rw [upd_ne (Nat.ne_of_lt (Nat.lt_of_lt_of_le (Heap.lt_size q) hp))]; exact n
  there := fun b u q _ => ⟨u, k b u q⟩
  tups := fun b xs q => by rw [upd_ne (ne_of_none q hn)]; exact q
  frzs := fun b u xs q => by rw [upd_ne (ne_of_none q hn)]; exact q
  tbls := fun b ps q => ⟨#[], by rw [upd_ne (ne_of_none q hn), q]; simp⟩
theorem Un.write (mu : Mut (H x)) (he : e = x ∨ H e = some (.own x)) (k : ∀ b u, b ≠ e → h.get? b = some u → h'.get? b = some u) (heo : ∃ u, h'.get? e = some u) : Un fs ex H (upd H x o) h h' := by
  have hx : ∀ b, H b = none → b ≠ x := fun b n z => by subst z; rw [n] at mu; exact mu
  have hb : ∀ b, H b = none → b ≠ e := fun b n z => by
    subst z
    rcases he with r | r
    · exact hx b n r
    · rw [n] at r; cases r
  have hm : ∀ b u, H b = some u → ¬ Mut (some u) → b ≠ x := fun b u q nm z => by subst z; rw [q] at mu; exact nm mu
  refine ⟨fun b u q n _ _ => k b u (hb b n) q, fun b u q n _ _ => ⟨u.slots, k b u (hb b n) q⟩, fun b u q n _ => by rw [upd_ne (hx b n)]; exact n, fun b u q _ => ?_,
    fun b xs q => by rw [upd_ne (hm b _ q fun z => z)]; exact q, fun b u xs q => by rw [upd_ne (hm b _ q fun z => z)]; exact q, fun b ps q => ⟨#[], by rw [upd_ne (hm b _ q fun z => z), q]; simp⟩⟩
  by_cases hbe : b = e
  · subst hbe; exact heo
  · exact ⟨u, k b u hbe q⟩
theorem Un.mono (u : Un fs ex H H1 h h1) (hs : ∀ b ∈ fs, b ∈ fs') (hx : ∀ b ∈ ex, b ∈ ex') : Un fs' ex' H H1 h h1 :=
  ⟨fun b ob q n hb he => u.keep b ob q n (fun z => hb (hs b z)) fun z => he (hx b z), fun _ _ q n _ he => u.any q n fun z => he (hx _ z), fun b ob q n he => u.free b ob q n fun z => he (hx b z), fun b ob q he => u.there b ob q fun z => he (hx b z), u.tups, u.frzs, u.tbls⟩
end
def trk (h : Heap) (H : Hp) : List Addr := (List.range h.objs.size).filter fun a => (H a).isSome
def hidT (h : Heap) (H : Hp) : Heap := PySem.W.hideAll h (trk h H)
theorem hidT_size (h : Heap) (H : Hp) : (hidT h H).objs.size = h.objs.size := PySem.W.hideAll_size _ _
theorem hidT_get {h : Heap} {H : Hp} {b : Addr} {o : Obj} (e : h.get? b = some o) (n : H b = none) : (hidT h H).get? b = some o :=
  PySem.W.hideAll_get _ e fun hm => by
    have q : (H b).isSome = true := (List.mem_filter.mp hm).2
    rw [n] at q; simp at q
theorem of_hidT {h : Heap} {H : Hp} {b : Addr} {o : Obj} (e : (hidT h H).get? b = some o) : h.get? b = some o ∧ H b = none := by
  have e' : h.get? b = some o := PySem.W.of_hideAll (trk h H) e
  refine ⟨e', ?_⟩
  cases q : H b with
  | none => rfl
  | some x =>
    have hm : b ∈ trk h H := List.mem_filter.mpr ⟨List.mem_range.mpr (Heap.lt_size e'), by simp [q]⟩
    have z : (hidT h H).get? b = none := PySem.W.hideAll_none (trk h H) hm
    rw [z] at e; cases e
def allNews (g h : Heap) (L : Addr) : List (Addr × Obj) := (List.range h.objs.size).filterMap fun a => if a = L ∨ (g.get? a).isSome = true then none else (h.get? a).map fun o => (a, o)
def rest (g h : Heap) (L d : Addr) : List (Addr × Obj) := (allNews g h L).filter fun p => decide (p.1 ≠ d)
end L2
namespace L2
open PySem PySem.Spec PyProof.Rows
structure Mod (K : PySem.W.Frag) (mg : Str → Option Value) (base : Heap) : Prop where
  kin : K.In base
  glob : base.Ns mainGlobals mg
  blt : ∃ mb, base.Ns builtinsNs mb ∧ ∀ x : Str, x ≠ "__name__" → mb x = bootBuiltins x
  nolimit : base.NoLimit
structure Cx where
  prog : Program
  w : World
  K : PySem.W.Frag
  mg : Str → Option Value
  base : Heap
  A : Around
  N : List Str
  s₀ : Shared
  H₀ : Hp
  env : Env
  outer : List Env
  stack : List Env
  ex : List Addr
  fn : Str → Bool
  calm : Bool
  pn : List (Addr × Obj)
  xe : Value → Shared → Prop
def frs (l : List Env) : List Addr := l.filterMap (·.frame)
abbrev Cx.fs (X : Cx) : List Addr := frs X.outer
def Vis (sc : Scope) (x : Str) : Prop := sc.names.lookup x = some .local ∨ sc.names.lookup x = some .cell ∨ sc.names.lookup x = some .free
def Loc (sc : Scope) (x : Str) : Prop := sc.names.lookup x = some .local ∨ sc.names.lookup x = some .cell
def Look (env : Env) (h : Heap) (m : Str → Option Value) (x : Str) (u : Value) : Prop :=
  (env.kindOf x = some .local ∧ m x = some u) ∨ ((env.kindOf x = some .cell ∨ env.kindOf x = some .free) ∧ ∃ c, env.cells.lookup x = some c ∧ h.IsCell c (some u))
structure Cx.Ok (X : Cx) : Prop where
  mod : Mod X.K X.mg X.base
  kind : X.env.scope.kind = .function
  glob : X.env.globals = mainGlobals
  blt : X.env.builtins = builtinsNs
  above : X.s₀.heap.objs.size ≤ X.env.locals
  inj : ∀ x y c, X.env.cells.lookup x = some c → X.env.cells.lookup y = some c → x = y
  has : ∀ x, (X.env.kindOf x = some .cell ∨ X.env.kindOf x = some .free) → ∃ c, X.env.cells.lookup x = some c
  cab : ∀ x c, X.fn x = true → X.env.cells.lookup x = some c → X.s₀.heap.objs.size ≤ c
  hd : X.calm = true → X.A.handled = none
  frames : X.A.frames = some X.stack
  stk : X.stack = X.outer ∨ (X.stack = X.env :: X.outer ∧ X.env.frame = some X.env.locals)
  exf : ∀ b ∈ X.ex, b ≠ X.env.locals ∧ ∀ x c, X.env.cells.lookup x = some c → c ≠ b
  bs : ∀ b o, X.base.get? b = some o → X.s₀.heap.get? b = some o ∧ X.H₀ b = none
  bsz : X.base.objs.size ≤ X.s₀.heap.objs.size
  noex : ∀ b o, X.base.get? b = some o → b ∉ X.ex
  exfs : ∀ b ∈ X.ex, b ∉ X.fs
  funs : X.s₀.heap.FunFrames X.base X.outer
  frf : ∀ b ∈ X.fs, X.H₀ b = none
structure Inv (X : Cx) (pins : List (Addr × Obj)) (σ : List (Option V)) (H : Hp) (s : Shared) : Prop where
  ok : X.Ok
  os : s.os = X.s₀.os
  bare : AllBare s.gens
  base : Un X.fs X.ex X.H₀ H X.s₀.heap s.heap
  loc : ∃ m, s.heap.Ns X.env.locals m ∧ ∀ (i : Nat) (x : Str) (v : V), X.N[i]? = some x → σ[i]? = some (some v) → Vis X.env.scope x → ∃ u, RelV v u ∧ Look X.env s.heap m x u
  cell : ∀ x c, X.env.cells.lookup x = some c → ∃ v, s.heap.IsCell c v
  free : H X.env.locals = none
  freeC : ∀ x c, X.env.cells.lookup x = some c → H c = none
  pin : ∀ p ∈ X.pn ++ pins, s.heap.get? p.1 = some p.2 ∧ H p.1 = none ∧ p.1 ≠ X.env.locals ∧ p.1 ∉ X.fs ∧ ∀ v, p.2.data ≠ .cell v
  hok : HOk X.prog X.w H s.heap
  len : σ.length = X.N.length
section
variable {X : Cx} {pins : List (Addr × Obj)} {σ : List (Option V)} {H H' : Hp} {s : Shared} {h' : Heap}
theorem Cx.Ok.nofr (ok : X.Ok) {b : Addr} {o : Obj} (e : X.base.get? b = some o) : b ∉ X.fs := fun hb => by
  have := (ok.funs.mem hb).1
  rw [e] at this; cases this
theorem Inv.bs (I : Inv X pins σ H s) : ∀ b o, X.base.get? b = some o → s.heap.get? b = some o ∧ H b = none := fun b o e =>
  ⟨I.base.keep b o (I.ok.bs b o e).1 (I.ok.bs b o e).2 (I.ok.nofr e) (I.ok.noex b o e), I.base.free b o (I.ok.bs b o e).1 (I.ok.bs b o e).2 (I.ok.noex b o e)⟩
theorem Inv.bk (I : Inv X pins σ H s) : ∀ b o, X.base.get? b = some o → s.heap.get? b = some o := fun b o e => (I.bs b o e).1
theorem Inv.mod (I : Inv X pins σ H s) : Mod X.K X.mg X.base := I.ok.mod
theorem Inv.kIn (I : Inv X pins σ H s) : X.K.In s.heap := I.ok.mod.kin.keeps I.bk
theorem Inv.nolimit (I : Inv X pins σ H s) : s.heap.NoLimit := I.ok.mod.nolimit.keeps I.bk
theorem Inv.fr (I : Inv X pins σ H s) : ∃ m, Fr X.base X.env.locals s.heap m :=
  let ⟨m, hn, _⟩ := I.loc
  ⟨m, hn, I.bk, Nat.le_trans I.ok.bsz I.ok.above⟩
theorem Inv.lt (I : Inv X pins σ H s) : X.env.locals < s.heap.objs.size := let ⟨_, hn, _⟩ := I.loc; hn.lt
theorem Inv.sz (I : Inv X pins σ H s) : X.s₀.heap.objs.size ≤ s.heap.objs.size := Nat.le_trans I.ok.above (Nat.le_of_lt I.lt)
theorem Inv.nofs (I : Inv X pins σ H s) {a : Addr} (h : s.heap.objs.size ≤ a) : a ∉ X.fs := fun hb => by
  obtain ⟨_, o, ho, _⟩ := I.ok.funs.mem hb
  exact absurd (Nat.lt_of_lt_of_le (Heap.lt_size ho) (Nat.le_trans I.sz h)) (Nat.lt_irrefl _)
theorem Inv.cne (I : Inv X pins σ H s) : ∀ x c, X.env.cells.lookup x = some c → c ≠ X.env.locals := fun x c e z => by
  obtain ⟨v, o, ho, hd⟩ := I.cell x c e
  obtain ⟨m, ⟨o', es, ep, ho', hd', _⟩, _⟩ := I.loc
  rw [z, ho'] at ho; cases ho; rw [hd'] at hd; cases hd
theorem Inv.funs (I : Inv X pins σ H s) : s.heap.FunFrames X.base X.outer := by
  have all : ∀ (l : List Env), (∀ b ∈ frs l, b ∈ X.fs) → X.s₀.heap.FunFrames X.base l → s.heap.FunFrames X.base l := by
    intro l
    induction l with
    | nil => intro _ _; trivial
    | cons env r ih =>
      intro hs hl
      obtain ⟨hk, ⟨L, o, hf, hn, ho, hd⟩, hr⟩ := hl
      have hL : L ∈ X.fs := hs L (by unfold frs; rw [List.filterMap_cons, hf]; exact List.mem_cons_self)
      obtain ⟨sl, e⟩ := I.base.slot L o ho (I.ok.frf L hL) hL fun z => I.ok.exfs L z hL
      exact ⟨hk, ⟨L, _, hf, hn, e, hd⟩, ih (fun b hb => hs b (by unfold frs; rw [List.filterMap_cons, hf]; exact List.mem_cons_of_mem _ hb)) hr⟩
  exact all X.outer (fun _ hb => hb) I.ok.funs
theorem Inv.stack (I : Inv X pins σ H s) : s.heap.FunFrames X.base X.stack := by
  rcases I.ok.stk with e | ⟨e, hf⟩
  · rw [e]; exact I.funs
  · rw [e]
    obtain ⟨m, hn, _⟩ := I.loc
    refine .cons (by rw [I.ok.kind]; decide) hf hn ?_ I.funs
    exact Heap.get?_none_of_le (Nat.le_trans I.ok.bsz I.ok.above)
theorem Inv.stkSub (I : Inv X pins σ H s) : ∀ b ∈ frs X.stack, b ∈ X.env.locals :: X.fs := fun b hb => by
  rcases I.ok.stk with e | ⟨e, hf⟩
  · rw [e] at hb; exact List.mem_cons_of_mem _ hb
  · rw [e] at hb
    unfold frs at hb
    rw [List.filterMap_cons, hf] at hb
    exact hb
theorem Inv.stkFree (I : Inv X pins σ H s) : ∀ b ∈ frs X.stack, H b = none := fun b hb => by
  rcases List.mem_cons.mp (I.stkSub b hb) with e | hb
  · rw [e]; exact I.free
  · obtain ⟨_, o, ho, _⟩ := I.ok.funs.mem hb
    exact I.base.free b o ho (I.ok.frf b hb) fun z => I.ok.exfs b z hb
theorem Inv.step {g' : Array GenState} {t' : Nat} {d' : Drawn} {ch : List Addr} (I : Inv X pins σ H s)
    (hch : ∀ b ∈ ch, (b ∈ X.ex ∨ X.s₀.heap.objs.size ≤ b) ∧ b ≠ X.env.locals ∧ (∀ x c, X.env.cells.lookup x = some c → c ≠ b) ∧ ∀ p ∈ X.pn ++ pins, p.1 ≠ b)
    (keep : ∀ b o, b ≠ X.env.locals → b ∉ X.fs → b ∉ ch → s.heap.get? b = some o → H b = none → h'.get? b = some o)
    (slot : ∀ b o, b ≠ X.env.locals → b ∈ X.fs → b ∉ ch → s.heap.get? b = some o → H b = none → ∃ sl, h'.get? b = some { o with slots := sl }) (free : ∀ b o, b ∉ ch → s.heap.get? b = some o → H b = none → H' b = none)
    (there : ∀ b o, b ∉ ch → s.heap.get? b = some o → ∃ o', h'.get? b = some o')
    (tups : ∀ b xs, H b = some (.tup xs) → H' b = some (.tup xs)) (frzs : ∀ b o u, H b = some (.frz o u) → H' b = some (.frz o u)) (tbls : ∀ b ps, H b = some (.tbl ps) → ∃ more, H' b = some (.tbl (ps ++ more)))
    (ns : ∀ m, s.heap.Ns X.env.locals m → h'.Ns X.env.locals m) (hok : HOk X.prog X.w H' h') (hg : AllBare g') :
    Inv X pins σ H' { s with heap := h', gens := g', drawn := d', toks := t' } := by
  have neL : ∀ b o, X.s₀.heap.get? b = some o → b ≠ X.env.locals := fun b o e => Nat.ne_of_lt (Nat.lt_of_lt_of_le (Heap.lt_size e) I.ok.above)
  have neC : ∀ b o, X.s₀.heap.get? b = some o → b ∉ X.ex → b ∉ ch := fun b o e hx hb => by
    rcases (hch b hb).1 with z | z
    · exact hx z
    · exact absurd (Nat.lt_of_lt_of_le (Heap.lt_size e) z) (Nat.lt_irrefl _)
  have cellK : ∀ x c, X.env.cells.lookup x = some c → ∀ v, s.heap.IsCell c v → h'.IsCell c v := fun x c e v ⟨o, ho, hd⟩ => by
    have nch : c ∉ ch := fun z => (hch c z).2.2.1 x c e rfl
    by_cases hc : c ∈ X.fs
    · obtain ⟨sl, q⟩ := slot c o (I.cne x c e) hc nch ho (I.freeC x c e)
      exact ⟨_, q, hd⟩
    · exact ⟨o, keep c o (I.cne x c e) hc nch ho (I.freeC x c e), hd⟩
  refine ⟨I.ok, I.os, hg, ⟨fun b o e n hb hx => ?_, fun b o e n hb hx => ?_, fun b o e n hx => ?_, fun b o e hx => ?_, fun b xs e => tups b xs (I.base.tups b xs e), fun b o xs e => frzs b o xs (I.base.frzs b o xs e), fun b ps e => ?_⟩, ?_, fun x c e => ?_, ?_, fun x c e => ?_, fun p hp => ?_, hok, I.len⟩
  · exact keep b o (neL b o e) hb (neC b o e hx) (I.base.keep b o e n hb hx) (I.base.free b o e n hx)
  · obtain ⟨sl, e1⟩ := I.base.slot b o e n hb hx
    obtain ⟨sl', e2⟩ := slot b _ (neL b o e) hb (neC b o e hx) e1 (I.base.free b o e n hx)
    exact ⟨sl', e2⟩
  · obtain ⟨o', e1⟩ := I.base.there b o e hx
    exact free b o' (neC b o e hx) e1 (I.base.free b o e n hx)
  · obtain ⟨o', e1⟩ := I.base.there b o e hx
    exact there b o' (neC b o e hx) e1
  · obtain ⟨m1, e1⟩ := I.base.tbls b ps e
    obtain ⟨m2, e2⟩ := tbls b _ e1
    exact ⟨m1 ++ m2, by rw [e2, Array.append_assoc]⟩
  · obtain ⟨m, hn, hl⟩ := I.loc
    refine ⟨m, ns m hn, fun i x v e1 e2 e3 => ?_⟩
    obtain ⟨u, r, l⟩ := hl i x v e1 e2 e3
    refine ⟨u, r, ?_⟩
    rcases l with l | ⟨k, c, e, z⟩
    · exact .inl l
    · exact .inr ⟨k, c, e, cellK x c e _ z⟩
  · obtain ⟨v, z⟩ := I.cell x c e
    exact ⟨v, cellK x c e v z⟩
  · obtain ⟨m, ⟨o, _, _, ho, _⟩, _⟩ := I.loc
    exact free _ o (fun z => (hch _ z).2.1 rfl) ho I.free
  · obtain ⟨v, o, ho, hd⟩ := I.cell x c e
    exact free c o (fun z => (hch c z).2.2.1 x c e rfl) ho (I.freeC x c e)
  · obtain ⟨e, n, ne, nf, d⟩ := I.pin p hp
    have nch : p.1 ∉ ch := fun z => (hch p.1 z).2.2.2 p hp rfl
    exact ⟨keep p.1 p.2 ne nf nch e n, free p.1 p.2 nch e n, ne, nf, d⟩
theorem Inv.un {t' : Nat} (I : Inv X pins σ H s) (u : Un X.fs [] H H' s.heap h') (hok : HOk X.prog X.w H' h') : Inv X pins σ H' { s with heap := h', toks := t' } := by
  obtain ⟨m, ⟨o, es, ep, ho, r⟩, _⟩ := id I.loc
  obtain ⟨sl, hL⟩ := u.any ho I.free (by simp)
  exact I.step (g' := s.gens) (d' := s.drawn) (ch := []) (fun _ z => nomatch z) (fun b o _ hb _ e n => u.keep b o e n hb (by simp)) (fun b o _ hb _ e n => u.slot b o e n hb (by simp)) (fun b o _ e n => u.free b o e n (by simp)) (fun b o _ e => u.there b o e (by simp)) u.tups u.frzs u.tbls (fun m' hm => by
    obtain ⟨o', es', ep', ho', r'⟩ := hm
    rw [ho] at ho'; cases ho'
    exact ⟨_, es', ep', hL, r'⟩) hok I.bare
theorem Inv.call {g' : Array GenState} {t' : Nat} {d' : Drawn} {ch : List Addr} (I : Inv X pins σ H s) (u : Un (frs X.stack) ch H H' s.heap h') (hok : HOk X.prog X.w H' h') (hg : AllBare g')
    (hch : ∀ b ∈ ch, (b ∈ X.ex ∨ X.s₀.heap.objs.size ≤ b) ∧ b ≠ X.env.locals ∧ (∀ x c, X.env.cells.lookup x = some c → c ≠ b) ∧ ∀ p ∈ X.pn ++ pins, p.1 ≠ b) :
    Inv X pins σ H' { s with heap := h', gens := g', drawn := d', toks := t' } := by
  obtain ⟨m, ⟨o, es, ep, ho, r⟩, _⟩ := id I.loc
  obtain ⟨sl, hL⟩ := u.any ho I.free fun z => (hch _ z).2.1 rfl
  exact I.step (ch := ch) hch (fun b o hL hb hc e n => u.keep b o e n (fun z => (List.mem_cons.mp (I.stkSub b z)).elim hL hb) hc) (fun b o _ _ hc e n => u.any e n hc) (fun b o hc e n => u.free b o e n hc) (fun b o hc e => u.there b o e hc) u.tups u.frzs u.tbls (fun m' hm => by
    obtain ⟨o', es', ep', ho', r'⟩ := hm
    rw [ho] at ho'; cases ho'
    exact ⟨_, es', ep', hL, r'⟩) hok hg
theorem Inv.turned {t' : Nat} {it : Addr} (I : Inv X pins σ H s) (k : ∀ b o, b ≠ it → s.heap.get? b = some o → h'.get? b = some o) (hn : H it = none) (hL : it ≠ X.env.locals)
    (h1 : it ∈ X.ex ∨ X.s₀.heap.objs.size ≤ it) (h2 : ∀ x c, X.env.cells.lookup x = some c → c ≠ it) (h3 : ∀ p ∈ X.pn ++ pins, p.1 ≠ it) : Inv X pins σ H { s with heap := h', toks := t' } := by
  have nit : ∀ b u, H b = some u → b ≠ it := fun b u e z => by rw [z, hn] at e; cases e
  refine I.step (g' := s.gens) (d' := s.drawn) (ch := [it]) (fun b hb => ?_) (fun b o _ _ hc e _ => k b o (fun z => hc (by simp [z])) e) (fun b o _ _ hc e _ => ⟨o.slots, k b o (fun z => hc (by simp [z])) e⟩) (fun _ _ _ _ n => n)
    (fun b o hc e => ⟨o, k b o (fun z => hc (by simp [z])) e⟩) (fun _ _ e => e) (fun _ _ _ e => e) (fun b ps e => ⟨#[], by rw [e]; simp⟩) (fun m hm => ?_) (fun b u e => ?_) I.bare
  · have e : b = it := by simpa using hb
    subst e
    exact ⟨h1, hL, h2, h3⟩
  · obtain ⟨o, es, ep, ho, r⟩ := hm
    exact ⟨o, es, ep, k _ o (Ne.symm hL) ho, r⟩
  · refine (I.hok b u e).stay (fun c v hc q => k c v ?_ q) (fun _ q => q) fun _ _ q => q
    rcases hc with z | z
    · rw [z]; exact nit b u e
    · exact nit c _ z
theorem Inv.tok (I : Inv X pins σ H s) (t : Nat) : Inv X pins σ H { s with toks := t } := I.un (h' := s.heap) (t' := t) Un.refl I.hok
theorem Inv.kept {t' : Nat} (I : Inv X pins σ H s) (k : ∀ b u, s.heap.get? b = some u → h'.get? b = some u) : Inv X pins σ H { s with heap := h', toks := t' } := I.un (Un.kept k) (I.hok.kept k)
theorem Inv.laid {a : Addr} {o : HO} {t' : Nat} (I : Inv X pins σ H s) (k : ∀ b u, s.heap.get? b = some u → h'.get? b = some u) (hp : s.heap.objs.size ≤ a) (new : ObjOk X.prog X.w (upd H a o) h' a o) :
    Inv X pins σ (upd H a o) { s with heap := h', toks := t' } := I.un (Un.laid k hp (I.hok.fresh hp)) (I.hok.laid k hp new)
theorem Inv.write {x e : Addr} {o : HO} {t' : Nat} (I : Inv X pins σ H s) (mu : Mut (H x)) (he : e = x ∨ H e = some (.own x)) (k : ∀ b u, b ≠ e → s.heap.get? b = some u → h'.get? b = some u) (heo : ∃ u, h'.get? e = some u)
    (new : ObjOk X.prog X.w (upd H x o) h' x o) : Inv X pins σ (upd H x o) { s with heap := h', toks := t' } := I.un (Un.write mu he k heo) (I.hok.write mu he k heo new)
theorem Inv.pins_of {pins' : List (Addr × Obj)} (I : Inv X pins σ H s) (h : ∀ p ∈ pins', s.heap.get? p.1 = some p.2 ∧ H p.1 = none ∧ p.1 ≠ X.env.locals ∧ p.1 ∉ X.fs ∧ ∀ v, p.2.data ≠ .cell v) : Inv X pins' σ H s :=
  ⟨I.ok, I.os, I.bare, I.base, I.loc, I.cell, I.free, I.freeC, fun p hp => (List.mem_append.mp hp).elim (fun z => I.pin p (List.mem_append_left _ z)) (h p), I.hok, I.len⟩
theorem nodup_ix {N : List Str} (hN : N.Nodup) {i j : Nat} {x : Str} (a : N[i]? = some x) (b : N[j]? = some x) : i = j := by
  obtain ⟨h1, e1⟩ := List.getElem?_eq_some_iff.mp a
  obtain ⟨h2, e2⟩ := List.getElem?_eq_some_iff.mp b
  exact (List.getElem_inj hN).mp (e1.trans e2.symm)
theorem store_ok2 {M : Model} {A : Around} {E : Value → Shared → Prop} {i : Nat} {x : Str} {v : V} {u : Value} {Q : Unit → Shared → Prop} (I : Inv X pins σ H s) (hN : X.N.Nodup) (hi : X.N[i]? = some x) (hx : Loc X.env.scope x) (r : RelV v u)
    (h : ∀ s', Inv X pins (σ.set i (some v)) H s' → (∃ a, Heap.SameBut a s.heap s'.heap ∧ (a = X.env.locals ∨ X.env.cells.lookup x = some a)) → Q () s') (hf : X.fn x = true ∨ X.env.scope.names.lookup x = some .local := by first | exact .inl rfl | exact .inr rfl | assumption) : wpAny M A (storeName X.env x u) Q E s := by
  obtain ⟨m, hn, hl⟩ := id I.loc
  have hcls : (X.env.scope.kind == .class || (X.env.scope.kind == .module && X.env.locals != X.env.globals)) = false := by rw [I.ok.kind]; rfl
  have hiσ : i < σ.length := by rw [I.len]; exact (List.getElem?_eq_some_iff.mp hi).1
  have cne := I.cne
  have tracked : ∀ {a : Addr} {h' : Heap}, (∃ o, s.heap.get? a = some o ∧ H a = none) → Heap.SameBut a s.heap h' → HOk X.prog X.w H h' := fun {a h'} ha hs b ob e => by
    obtain ⟨_, _, hfree⟩ := ha
    refine (I.hok b ob e).stay (fun c w' hc q => (hs.2 c ?_).trans q) (fun _ q => q) fun _ _ q => q
    rintro rfl
    rcases hc with rfl | hc
    · rw [hfree] at e; cases e
    · rw [hfree] at hc; cases hc
  rcases hx with hk | hk
  · refine wpAny_storeName_local hk hn (fun h' hn' hs => ?_) hcls
    obtain ⟨oL, _, _, hoL, _⟩ := id hn
    refine h _ ⟨I.ok, I.os, I.bare, ⟨fun b o e n hb hx => ?_, fun b o e n hb hx => ?_, I.base.free, fun b o e hx => ?_, I.base.tups, I.base.frzs, I.base.tbls⟩, ⟨_, hn', fun j y v' e1 e2 e3 => ?_⟩, fun y c e => ?_, I.free, I.freeC, fun p hp => ?_, tracked ⟨oL, hoL, I.free⟩ hs, by simpa using I.len⟩ ⟨_, hs, .inl rfl⟩
    · exact (hs.2 b (Nat.ne_of_lt (Nat.lt_of_lt_of_le (Heap.lt_size e) I.ok.above))).trans (I.base.keep b o e n hb hx)
    · obtain ⟨sl, e1⟩ := I.base.slot b o e n hb hx
      exact ⟨sl, (hs.2 b (Nat.ne_of_lt (Nat.lt_of_lt_of_le (Heap.lt_size e) I.ok.above))).trans e1⟩
    · obtain ⟨o', e1⟩ := I.base.there b o e hx
      exact ⟨o', (hs.2 b (Nat.ne_of_lt (Nat.lt_of_lt_of_le (Heap.lt_size e) I.ok.above))).trans e1⟩
    · by_cases hj : j = i
      · subst hj
        rw [hi] at e1; cases e1
        rw [List.getElem?_set_self hiσ] at e2
        cases e2
        exact ⟨u, r, .inl ⟨hk, by simp⟩⟩
      · rw [List.getElem?_set_ne (Ne.symm hj)] at e2
        obtain ⟨u', r', q⟩ := hl j y v' e1 e2 e3
        refine ⟨u', r', ?_⟩
        rcases q with ⟨k, e⟩ | ⟨k, c, e, z⟩
        · refine .inl ⟨k, ?_⟩
          have : y ≠ x := fun e => hj (nodup_ix hN e1 (e ▸ hi))
          simp [this, e]
        · exact .inr ⟨k, c, e, z.sameBut hs (cne y c e)⟩
    · obtain ⟨w', z⟩ := I.cell y c e
      exact ⟨w', z.sameBut hs (cne y c e)⟩
    · obtain ⟨e, n, ne, nf, d⟩ := I.pin p hp
      exact ⟨(hs.2 p.1 ne).trans e, n, ne, nf, d⟩
  · have hfn : X.fn x = true := by
      rcases hf with z | z
      · exact z
      · rw [z] at hk; cases hk
    obtain ⟨c, hc⟩ := I.ok.has x (.inl hk)
    obtain ⟨w', z⟩ := I.cell x c hc
    refine wpAny_storeName_cell I.ok.kind hk hc z (fun h' hc' hs => ?_)
    obtain ⟨oc, hoc, hocd⟩ := id z
    refine h { s with heap := h' } ⟨I.ok, I.os, I.bare, ⟨fun b o e n hb hx => ?_, fun b o e n hb hx => ?_, I.base.free, fun b o e hx => ?_, I.base.tups, I.base.frzs, I.base.tbls⟩, ⟨m, hn.sameBut hs (Ne.symm (cne x c hc)), fun j y v' e1 e2 e3 => ?_⟩, fun y c' e => ?_, I.free, I.freeC, fun p hp => ?_, tracked ⟨oc, hoc, I.freeC x c hc⟩ hs, by simpa using I.len⟩ ⟨c, hs, .inr hc⟩
    · exact (hs.2 b (Nat.ne_of_lt (Nat.lt_of_lt_of_le (Heap.lt_size e) (I.ok.cab x c hfn hc)))).trans (I.base.keep b o e n hb hx)
    · obtain ⟨sl, e1⟩ := I.base.slot b o e n hb hx
      exact ⟨sl, (hs.2 b (Nat.ne_of_lt (Nat.lt_of_lt_of_le (Heap.lt_size e) (I.ok.cab x c hfn hc)))).trans e1⟩
    · obtain ⟨o', e1⟩ := I.base.there b o e hx
      exact ⟨o', (hs.2 b (Nat.ne_of_lt (Nat.lt_of_lt_of_le (Heap.lt_size e) (I.ok.cab x c hfn hc)))).trans e1⟩
    · by_cases hj : j = i
      · subst hj
        rw [hi] at e1; cases e1
        rw [List.getElem?_set_self hiσ] at e2
        cases e2
        exact ⟨u, r, .inr ⟨.inl hk, c, hc, hc'⟩⟩
      · rw [List.getElem?_set_ne (Ne.symm hj)] at e2
        obtain ⟨u', r', q⟩ := hl j y v' e1 e2 e3
        refine ⟨u', r', ?_⟩
        rcases q with q | ⟨k, c', e, z'⟩
        · exact .inl q
        · refine .inr ⟨k, c', e, z'.sameBut hs ?_⟩
          rintro rfl
          exact hj (nodup_ix hN e1 (I.ok.inj _ _ _ e hc ▸ hi))
    · by_cases hcc : c' = c
      · subst hcc; exact ⟨_, hc'⟩
      · obtain ⟨w2, z2⟩ := I.cell y c' e
        exact ⟨w2, z2.sameBut hs hcc⟩
    · obtain ⟨e, n, ne, nf, d⟩ := I.pin p hp
      refine ⟨(hs.2 p.1 ?_).trans e, n, ne, nf, d⟩
      intro q
      rw [q, hoc] at e
      have q' : oc = p.2 := Option.some.inj e
      exact d w' (by rw [← q']; exact hocd)
theorem store_ok {M : Model} {A : Around} {E : Value → Shared → Prop} {i : Nat} {x : Str} {v : V} {u : Value} {Q : Unit → Shared → Prop} (I : Inv X pins σ H s) (hN : X.N.Nodup) (hi : X.N[i]? = some x) (hx : Loc X.env.scope x) (r : RelV v u)
    (h : ∀ s', Inv X pins (σ.set i (some v)) H s' → Q () s') (hf : X.fn x = true ∨ X.env.scope.names.lookup x = some .local := by first | exact .inl rfl | exact .inr rfl | assumption) : wpAny M A (storeName X.env x u) Q E s :=
  store_ok2 I hN hi hx r (fun s' I' _ => h s' I') hf
theorem Inv.call' {s' : Shared} {ch : List Addr} (I : Inv X pins σ H s) (ho : s'.os = s.os) (u : Un (frs X.stack) ch H H' s.heap s'.heap) (hok : HOk X.prog X.w H' s'.heap) (hg : AllBare s'.gens)
    (hch : ∀ b ∈ ch, (b ∈ X.ex ∨ X.s₀.heap.objs.size ≤ b) ∧ b ≠ X.env.locals ∧ (∀ x c, X.env.cells.lookup x = some c → c ≠ b) ∧ ∀ p ∈ X.pn ++ pins, p.1 ≠ b) : Inv X pins σ H' s' := by
  obtain ⟨h', g', d', t', o'⟩ := s'
  have e : o' = s.os := ho
  subst e
  exact I.call (g' := g') (t' := t') (d' := d') u hok hg hch
end
abbrev XK := Value → Option Addr → Hp → Prop
abbrev St := List (Option V)
abbrev VK := V → Hp → Prop
abbrev TE := St → Hp → VK → Prop
abbrev TT := St → Hp → (Bool → Hp → Prop) → Prop
abbrev TA := St → Hp → (List V → Hp → Prop) → Prop
structure Ends where
  nx : St → Hp → Prop
  rt : VK
  bk : St → Hp → Prop := fun _ _ => False
  ct : St → Hp → Prop := fun _ _ => False
abbrev TS := Ends → St → Hp → Prop
def EP (X : Cx) (pins : List (Addr × Obj)) (σ : St) (Q : VK) (u : Value) (s' : Shared) : Prop := ∃ v H', Inv X pins σ H' s' ∧ RelV v u ∧ Q v H'
def TP (X : Cx) (pins : List (Addr × Obj)) (σ : St) (Q : Bool → Hp → Prop) (b : Bool) (s' : Shared) : Prop := ∃ H', Inv X pins σ H' s' ∧ Q b H'
def AP (X : Cx) (pins : List (Addr × Obj)) (σ : St) (Q : List V → Hp → Prop) (us : List Value) (s' : Shared) : Prop := ∃ vs H', Inv X pins σ H' s' ∧ Vals vs us ∧ Q vs H'
def SP (X : Cx) (pins : List (Addr × Obj)) (D : Ends) (f : Flow) (s' : Shared) : Prop :=
  match f with
  | .next => ∃ σ' H', Inv X pins σ' H' s' ∧ D.nx σ' H'
  | .brk => ∃ σ' H', Inv X pins σ' H' s' ∧ D.bk σ' H'
  | .cont => ∃ σ' H', Inv X pins σ' H' s' ∧ D.ct σ' H'
  | .ret u => ∃ v σ' H', Inv X pins σ' H' s' ∧ RelV v u ∧ D.rt v H'
def PE (X : Cx) (e : Expr) (t : TE) : Prop :=
  ∀ (pins : List (Addr × Obj)) (s : Shared) (σ : St) (H : Hp) (Q : VK), Inv X pins σ H s → t σ H Q → wpAny (model X.prog X.w) X.A (eval e X.env) (EP X pins σ Q) X.xe s
def PT (X : Cx) (e : Expr) (t : TT) : Prop :=
  ∀ (pins : List (Addr × Obj)) (s : Shared) (σ : St) (H : Hp) (Q : Bool → Hp → Prop), Inv X pins σ H s → t σ H Q → wpAny (model X.prog X.w) X.A (isTrue e X.env (eval e X.env)) (TP X pins σ Q) X.xe s
def PW (X : Cx) (e : Expr) (t : TT) : Prop :=
  ∀ (whole : Sem Value) (pins : List (Addr × Obj)) (s : Shared) (σ : St) (H : Hp) (Q : Bool → Hp → Prop), Inv X pins σ H s → t σ H Q → wpAny (model X.prog X.w) X.A (isTrue e X.env whole) (TP X pins σ Q) X.xe s
theorem PW.pt {X : Cx} {e : Expr} {t : TT} (h : PW X e t) : PT X e t := h _
def PA (X : Cx) (es : List Expr) (t : TA) : Prop :=
  ∀ (pos : Pos) (pins : List (Addr × Obj)) (s : Shared) (σ : St) (H : Hp) (Q : List V → Hp → Prop), Inv X pins σ H s → t σ H Q → wpAny (model X.prog X.w) X.A (spliced (backTo pos (starEach es X.env))) (AP X pins σ Q) X.xe s
def PS (X : Cx) (st : Stmt) (t : TS) : Prop :=
  ∀ (pins : List (Addr × Obj)) (s : Shared) (σ : St) (H : Hp) (D : Ends), Inv X pins σ H s → t D σ H → wpAny (model X.prog X.w) X.A (exec st X.env) (SP X pins D) X.xe s
def PSs (X : Cx) (st : List Stmt) (t : TS) : Prop :=
  ∀ (pins : List (Addr × Obj)) (s : Shared) (σ : St) (H : Hp) (D : Ends), Inv X pins σ H s → t D σ H → wpAny (model X.prog X.w) X.A (execs st X.env) (SP X pins D) X.xe s
theorem thn {α : Type} {t : Sem α} {Q Q' : α → Shared → Prop} {M : Model} {A : Around} {E : Value → Shared → Prop} {s : Shared} (h : wpAny M A t Q E s) (hQ : ∀ a s, Q a s → Q' a s) : wpAny M A t Q' E s := wpAny_mono h hQ fun _ _ x => x
end L2
namespace L2
open PySem PySem.Spec PyProof.Rows
section
variable {X : Cx}
theorem bin {a b : Expr} {ta tb : TE} (ha : PE X a ta) (hb : PE X b tb) {pins : List (Addr × Obj)} {s : Shared} {σ : St} {H : Hp} {R : V → V → Hp → Prop} (I : Inv X pins σ H s) (h : ta σ H fun x H1 => tb σ H1 fun y H2 => R x y H2)
    {α : Type} {Q : α → Shared → Prop} {f : Value → Value → Sem α}
    (hf : ∀ v u s2 x y H2, Inv X pins σ H2 s2 → RelV x v → RelV y u → R x y H2 → wpAny (model X.prog X.w) X.A (f v u) Q X.xe s2) :
    wpAny (model X.prog X.w) X.A (eval a X.env) (fun v s₁ => wpAny (model X.prog X.w) X.A (eval b X.env) (fun u s₂ => wpAny (model X.prog X.w) X.A (f v u) Q X.xe s₂) X.xe s₁) X.xe s := by
  refine thn (ha pins s σ H _ I h) fun v s1 ⟨x, H1, I1, r1, q1⟩ => ?_
  refine thn (hb pins s1 σ H1 _ I1 q1) fun u s2 ⟨y, H2, I2, r2, q2⟩ => ?_
  exact hf v u s2 x y H2 I2 r1 r2 q2
def tVar (i : Nat) : TE := fun σ H Q => ∃ v, σ[i]? = some (some v) ∧ Q v H
def tC (v : V) : TE := fun _ H Q => Q v H
theorem pe_var {i : Nat} {x : Str} {pos : Pos} (hN : X.N[i]? = some x) (hv : Vis X.env.scope x) (hd : (x == ("__debug__" : Str)) = false := by decide) (hcd : (x == ("__classdict__" : Str)) = false := by decide) : PE X (.Name x pos) (tVar i) := by
  intro pins s σ H Q I h
  obtain ⟨v, e, h⟩ := h
  obtain ⟨m, hn, hl⟩ := I.loc
  obtain ⟨u, r, l⟩ := hl i x v hN e hv
  have fin : EP X pins σ Q u s := ⟨v, H, I, r, h⟩
  rcases l with ⟨hk, hm⟩ | ⟨hk, c, hc, hcell⟩
  · exact wpAny_Name (wpAny_loadName_local I.ok.kind hk hn hm fin) hd
  · rcases hk with hk | hk
    · exact wpAny_Name (wpAny_loadName_cell I.ok.kind hk hc hcell fin) hd
    · exact wpAny_Name (wpAny_loadName_free I.ok.kind hk hc hcell fin hcd) hd
theorem pe_int {i j pos} : PE X (.Constant (.int i) j pos) (tC (.int i)) := fun _ _ _ H _ I h => wpAny_Constant_int ⟨.int i, H, I.tok _, ⟨_, rfl⟩, h⟩
theorem pe_bl {b j pos} : PE X (.Constant (.bool b) j pos) (tC (.bl b)) := fun _ _ _ H _ I h => Constant_bool ⟨.bl b, H, I, rfl, h⟩
theorem pe_non {j pos} : PE X (.Constant .none j pos) (tC .non) := fun _ _ _ H _ I h => Constant_none ⟨.non, H, I, rfl, h⟩
theorem pe_str {x j pos} : PE X (.Constant (.str x) j pos) (tC (.str x)) := fun _ _ _ H _ I h => Calls.Constant_str ⟨.str x, H, I.tok _, ⟨_, rfl⟩, h⟩
def Gl (X : Cx) (x : Str) : Prop := X.env.kindOf x = some .globalImplicit
theorem ld_glob {E : Value → Shared → Prop} {pins : List (Addr × Obj)} {s : Shared} {σ : St} {H : Hp} {x : Str} {u : Value} {pos : Pos} {Q : Value → Shared → Prop} (I : Inv X pins σ H s) (hg : Gl X x) (hm : X.mg x = some u) (h : Q u s)
    (hd : (x == ("__debug__" : Str)) = false := by decide) : wpAny (model X.prog X.w) X.A (eval (.Name x pos) X.env) Q E s :=
  Calls.Name_function_global I.ok.kind hg (Calls.loadGlobal_global (by rw [I.ok.glob]; exact I.mod.glob.keeps I.bk) hm h) hd
theorem ld_blt {E : Value → Shared → Prop} {pins : List (Addr × Obj)} {s : Shared} {σ : St} {H : Hp} {x : Str} {u : Value} {pos : Pos} {Q : Value → Shared → Prop} (I : Inv X pins σ H s) (hg : Gl X x) (hm : X.mg x = none) (hv : bootBuiltins x = some u) (h : Q u s)
    (hn : x ≠ "__name__" := by decide) (hd : (x == ("__debug__" : Str)) = false := by decide) : wpAny (model X.prog X.w) X.A (eval (.Name x pos) X.env) Q E s := by
  obtain ⟨mb, h1, h2⟩ := I.mod.blt
  exact Calls.Name_function_global I.ok.kind hg (Calls.loadGlobal_builtin (by rw [I.ok.glob]; exact I.mod.glob.keeps I.bk) hm (by rw [I.ok.blt]; exact h1.keeps I.bk) ((h2 x hn).trans hv) h) hd
theorem pe_glob {x : Str} {v : V} {u : Value} {pos : Pos} (hg : Gl X x) (hm : X.mg x = some u) (r : RelV v u) (hd : (x == ("__debug__" : Str)) = false := by decide) : PE X (.Name x pos) (tC v) :=
  fun _ _ _ H _ I h => ld_glob I hg hm ⟨v, H, I, r, h⟩ hd
theorem pe_bltn {x : Str} {v : V} {u : Value} {pos : Pos} (hg : Gl X x) (hm : X.mg x = none) (hv : bootBuiltins x = some u) (r : RelV v u) (hn : x ≠ "__name__" := by decide) (hd : (x == ("__debug__" : Str)) = false := by decide) : PE X (.Name x pos) (tC v) :=
  fun _ _ _ H _ I h => ld_blt I hg hm hv ⟨v, H, I, r, h⟩ hn hd
variable {a b : Expr} {ta tb : TE} {pos : Pos}
def PC (X : Cx) (op : CmpOp) (a b : Expr) (t : TE) : Prop :=
  ∀ (pins : List (Addr × Obj)) (s : Shared) (σ : St) (H : Hp) (Q : VK), Inv X pins σ H s → t σ H Q →
    wpAny (model X.prog X.w) X.A (eval a X.env) (fun v s₁ => wpAny (model X.prog X.w) X.A (eval b X.env) (fun u s₂ => wpAny (model X.prog X.w) X.A (compareOp op v u) (EP X pins σ Q) X.xe s₂) X.xe s₁) X.xe s
theorem nobehind (b : Expr) {op : CmpOp} (h : op ≠ .In) (h2 : op ≠ .NotIn) : behindInMarks op b = false := by
  have e1 : (op == CmpOp.In) = false := by cases op <;> first | rfl | exact absurd rfl h
  have e2 : (op == CmpOp.NotIn) = false := by cases op <;> first | rfl | exact absurd rfl h2
  cases b <;> simp [behindInMarks, e1, e2]
def tIsN (ta : TE) : TE := fun σ H Q => ta σ H fun x H1 => Q (.bl (decide (x = .non))) H1
def tNotN (ta : TE) : TE := fun σ H Q => ta σ H fun x H1 => Q (.bl (!decide (x = .non))) H1
theorem RelV.none_iff {x : V} {v : Value} (r : RelV x v) : (v == Value.none) = decide (x = .non) := by
  cases x with
  | non => cases r; rfl
  | bl _ => cases r; rfl
  | int _ => obtain ⟨t, rfl⟩ := r; rfl
  | str _ => obtain ⟨t, rfl⟩ := r; rfl
  | byt _ => obtain ⟨t, rfl⟩ := r; rfl
  | flt _ => obtain ⟨t, rfl⟩ := r; rfl
  | ref _ => cases r; rfl
  | ty _ => cases r; rfl
theorem pc_isN {j pos'} (ha : PE X a ta) : PC X .Is a (.Constant .none j pos') (tIsN ta) := by
  intro pins s σ H Q I h
  refine thn (ha pins s σ H _ I h) fun v s1 ⟨x, H1, I1, r1, q1⟩ => ?_
  exact Constant_none (is_none_gen ⟨.bl _, H1, I1, by rw [r1.none_iff]; rfl, q1⟩)
theorem pc_notN {j pos'} (ha : PE X a ta) : PC X .IsNot a (.Constant .none j pos') (tNotN ta) := by
  intro pins s σ H Q I h
  refine thn (ha pins s σ H _ I h) fun v s1 ⟨x, H1, I1, r1, q1⟩ => ?_
  exact Constant_none (isnot_none_gen ⟨.bl _, H1, I1, by rw [r1.none_iff]; rfl, q1⟩)
def tB (t : TE) : TT := fun σ H Q => t σ H fun x H1 => ∃ c, x = .bl c ∧ Q c H1
theorem pt_cmp {op : CmpOp} {t : TE} (h : PC X op a b t) (h1 : behindInMarks op b = false := by first | exact nobehind _ (by decide) (by decide) | rfl) : PT X (.Compare a [op] [b] pos) (tB t) := by
  intro pins s σ H Q I hw
  refine wpAny_isTrue_Compare1 (thn (h pins s σ H _ I hw) fun v s1 h1 => thn h1 fun u s2 h2 => thn h2 fun c s3 ⟨x, H1, I1, r1, q1⟩ => ?_) h1
  obtain ⟨d, rfl, q⟩ := q1
  cases r1
  exact wpAny_truthy_bool ⟨H1, I1, q⟩
theorem pt_val {e : Expr} {t : TE} (h : PE X e t) (he : ∀ whole, isTrue e X.env whole = (do let v ← whole; standAt e.pos; holding [v] (truthy v)) := by intro _; rfl) : PT X e (tB t) := by
  intro pins s σ H Q I hw
  refine isTrue_plain (thn (h pins s σ H _ I hw) fun v s1 ⟨x, H1, I1, r1, q1⟩ => ?_) (he _)
  obtain ⟨d, rfl, q⟩ := q1
  cases r1
  exact wpAny_truthy_bool ⟨H1, I1, q⟩
variable {tA tB' : TT} {rest : List Expr}
def tAnd (t u : TT) : TT := fun σ H Q => t σ H fun c H1 => if c = true then u σ H1 Q else Q false H1
def tOr (t u : TT) : TT := fun σ H Q => t σ H fun c H1 => if c = true then Q true H1 else u σ H1 Q
def tNot (t : TT) : TT := fun σ H Q => t σ H fun c H1 => Q (!c) H1
theorem pw_and1 (ha : PT X a tA) : PW X (.BoolOp .And [a] pos) tA := by
  intro wh pins s σ H Q I h
  refine isTrue_and (thn (ha pins s σ H Q I h) fun c s1 e => ?_)
  cases c with
  | true => exact isTrue_and_nil e
  | false => exact e
theorem pw_or1 (ha : PT X a tA) : PW X (.BoolOp .Or [a] pos) tA := by
  intro wh pins s σ H Q I h
  refine isTrue_or (thn (ha pins s σ H Q I h) fun c s1 e => ?_)
  cases c with
  | false => exact isTrue_or_nil e
  | true => exact e
theorem pw_and (ha : PT X a tA) (hb : PW X (.BoolOp .And (b :: rest) pos) tB') : PW X (.BoolOp .And (a :: b :: rest) pos) (tAnd tA tB') := by
  intro wh pins s σ H Q I h
  refine isTrue_and (thn (ha pins s σ H _ I h) fun c s1 ⟨H1, I1, q1⟩ => ?_)
  cases c with
  | true => exact hb wh pins s1 σ H1 Q I1 q1
  | false => exact ⟨H1, I1, q1⟩
theorem pw_or (ha : PT X a tA) (hb : PW X (.BoolOp .Or (b :: rest) pos) tB') : PW X (.BoolOp .Or (a :: b :: rest) pos) (tOr tA tB') := by
  intro wh pins s σ H Q I h
  refine isTrue_or (thn (ha pins s σ H _ I h) fun c s1 ⟨H1, I1, q1⟩ => ?_)
  cases c with
  | true => exact ⟨H1, I1, q1⟩
  | false => exact hb wh pins s1 σ H1 Q I1 q1
theorem pt_not (ha : PT X a tA) : PT X (.UnaryOp .Not a pos) (tNot tA) := by
  intro pins s σ H Q I h
  exact isTrue_not (ha pins s σ H (fun c H1 => Q (!c) H1) I h)
def tAndV (ta tb : TE) : TE := fun σ H Q => ta σ H fun x H1 => ∃ c, x = .bl c ∧ if c = true then tb σ H1 Q else Q (.bl false) H1
def tOrV (ta tb : TE) : TE := fun σ H Q => ta σ H fun x H1 => ∃ c, x = .bl c ∧ if c = true then Q (.bl true) H1 else tb σ H1 Q
def tNotV (ta : TE) : TE := fun σ H Q => ta σ H fun x H1 => ∃ c, x = .bl c ∧ Q (.bl (!c)) H1
theorem pe_one {op} {t : TE} (h : PE X a t) : PE X (.BoolOp op [a] pos) t := fun pins s σ H Q I hw => BoolOp_one (h pins s σ H Q I hw)
theorem pe_and (ha : PE X a ta) (hb : PE X (.BoolOp .And (b :: rest) pos) tb) : PE X (.BoolOp .And (a :: b :: rest) pos) (tAndV ta tb) := by
  intro pins s σ H Q I h
  refine BoolOp_and (thn (ha pins s σ H _ I h) fun v s1 ⟨x, H1, I1, r1, q1⟩ => ?_)
  obtain ⟨c, rfl, q1⟩ := q1
  cases r1
  refine wpAny_truthy_bool ?_
  cases c with
  | true => exact hb pins s1 σ H1 Q I1 q1
  | false => exact ⟨.bl false, H1, I1, rfl, q1⟩
theorem pe_not (ha : PE X a ta) : PE X (.UnaryOp .Not a pos) (tNotV ta) := by
  intro pins s σ H Q I h
  refine UnaryOp_ (thn (ha pins s σ H _ I h) fun v s1 ⟨x, H1, I1, r1, q1⟩ => ?_)
  obtain ⟨c, rfl, q1⟩ := q1
  cases r1
  exact not_of (wpAny_truthy_bool ⟨.bl (!c), H1, I1, rfl, q1⟩)
def tIf (t : TT) (ta tb : TE) : TE := fun σ H Q => t σ H fun c H1 => if c = true then ta σ H1 Q else tb σ H1 Q
theorem pe_ifExp {c : Expr} (hc : PT X c tA) (ha : PE X a ta) (hb : PE X b tb) : PE X (.IfExp c a b pos) (tIf tA ta tb) := by
  intro pins s σ H Q I h
  refine wpAny_IfExp (thn (hc pins s σ H _ I h) fun d s1 ⟨H1, I1, q1⟩ => ?_)
  cases d with
  | true => exact ha pins s1 σ H1 Q I1 q1
  | false => exact hb pins s1 σ H1 Q I1 q1
end
end L2
namespace L2
open PySem PySem.Spec PyProof.Rows
def SqL (K : PySem.W.Frag) (H : Hp) (a : Addr) (xs : List V) : Prop :=
  Rd H a (.lst xs) ∨
    ∃ (o : Obj) (its : Array Value) (n : Nat), K.lookup a = some o ∧ o.cls = .type "list" ∧ o.dict = none ∧ o.data = .seq its n ∧ its.size ≤ sizeLine ∧ Vals xs its.toList
def SqT (K : PySem.W.Frag) (H : Hp) (a : Addr) (xs : List V) : Prop :=
  Rd H a (.tup xs) ∨
    ∃ (o : Obj) (its : Array Value) (n : Nat), K.lookup a = some o ∧ o.cls = .type "tuple" ∧ o.data = .seq its n ∧ its.size ≤ sizeLine ∧ Vals xs its.toList
def absV : Value → Option V
  | .none => some .non
  | .bool b => some (.bl b)
  | .int i _ => some (.int i)
  | .str x _ => some (.str x)
  | .bytes b _ => some (.byt b)
  | .float b _ => some (.flt b)
  | .ref a => some (.ref a)
  | .type n => some (.ty n)
  | _ => none
theorem RelV.abs {x : V} {u : Value} (r : RelV x u) : absV u = some x := by
  cases x with
  | non => cases r; rfl
  | bl _ => cases r; rfl
  | int _ => obtain ⟨t, rfl⟩ := r; rfl
  | str _ => obtain ⟨t, rfl⟩ := r; rfl
  | byt _ => obtain ⟨t, rfl⟩ := r; rfl
  | flt _ => obtain ⟨t, rfl⟩ := r; rfl
  | ref _ => cases r; rfl
  | ty _ => cases r; rfl
theorem RelV.inj {x y : V} {u : Value} (r : RelV x u) (q : RelV y u) : x = y := Option.some.inj (r.abs.symm.trans q.abs)
theorem Vals.inj : ∀ {xs ys : List V} {us : List Value}, Vals xs us → Vals ys us → xs = ys
  | _, _, _, .nil, .nil => rfl
  | _, _, _, .cons r t, .cons r' t' => by rw [r.inj r', Vals.inj t t']
section
variable {X : Cx} {pins : List (Addr × Obj)} {σ : St} {H : Hp} {s : Shared} {a : Addr} {xs ys : List V}
theorem SqL.of {K : PySem.W.Frag} (h : H a = some (.lst xs)) : SqL K H a xs := .inl (.inl h)
theorem SqT.of {K : PySem.W.Frag} (h : H a = some (.tup xs)) : SqT K H a xs := .inl (.inl h)
theorem Inv.list (I : Inv X pins σ H s) (h : SqL X.K H a xs) : ∃ its : List Value, Vals xs its ∧ PlainL s.heap a its.toArray ∧ xs.length ≤ sizeLine := by
  rcases h with h | ⟨o, its, n, hk, hc, hd, hs, hz, r⟩
  · obtain ⟨z, its, n, r, e⟩ := h.ok I.hok
    exact ⟨its, r, ⟨_, n, e, rfl, rfl, rfl⟩, z⟩
  · refine ⟨its.toList, r, ⟨o, n, I.kIn a o hk, hc, hd, by simpa using hs⟩, ?_⟩
    have e := r.length
    simp only [Array.length_toList] at e
    omega
theorem Inv.tuple (I : Inv X pins σ H s) (h : SqT X.K H a xs) : ∃ its : List Value, Vals xs its ∧ IsTup s.heap a its.toArray ∧ xs.length ≤ sizeLine := by
  rcases h with h | ⟨o, its, n, hk, hc, hs, hz, r⟩
  · obtain ⟨z, its, r, p⟩ := h.ok I.hok
    exact ⟨its, r, p.tup, z⟩
  · refine ⟨its.toList, r, ⟨o, I.kIn a o hk, hc, n, by simpa using hs⟩, ?_⟩
    have e := r.length
    simp only [Array.length_toList] at e
    omega
theorem Inv.list_inj (I : Inv X pins σ H s) (h : SqL X.K H a xs) (h' : SqL X.K H a ys) : xs = ys := by
  obtain ⟨its, r, ⟨o, n, e, _, _, d⟩, _⟩ := I.list h
  obtain ⟨its', r', ⟨o', n', e', _, _, d'⟩, _⟩ := I.list h'
  rw [e] at e'; cases e'
  rw [d] at d'
  injection d' with d1 _
  have : its = its' := by simpa using congrArg Array.toList d1
  subst this
  exact r.inj r'
theorem Inv.tuple_inj (I : Inv X pins σ H s) (h : SqT X.K H a xs) (h' : SqT X.K H a ys) : xs = ys := by
  obtain ⟨its, r, ⟨o, e, _, n, d⟩, _⟩ := I.tuple h
  obtain ⟨its', r', ⟨o', e', _, n', d'⟩, _⟩ := I.tuple h'
  rw [e] at e'; cases e'
  rw [d] at d'
  injection d' with d1 _
  have : its = its' := by simpa using congrArg Array.toList d1
  subst this
  exact r.inj r'
end
abbrev Cx.wish (X : Cx) (E : Value → Shared → Prop) : Cx := { X with xe := E }
abbrev Cx.nox (X : Cx) : Cx := X.wish fun _ _ => False
theorem Cx.Ok.wish {X : Cx} (ok : X.Ok) (E : Value → Shared → Prop) : (X.wish E).Ok :=
  ⟨ok.mod, ok.kind, ok.glob, ok.blt, ok.above, ok.inj, ok.has, ok.cab, ok.hd, ok.frames, ok.stk, ok.exf, ok.bs, ok.bsz, ok.noex, ok.exfs, ok.funs, ok.frf⟩
theorem Cx.Ok.unwish {X : Cx} {E : Value → Shared → Prop} (ok : (X.wish E).Ok) : X.Ok :=
  ⟨ok.mod, ok.kind, ok.glob, ok.blt, ok.above, ok.inj, ok.has, ok.cab, ok.hd, ok.frames, ok.stk, ok.exf, ok.bs, ok.bsz, ok.noex, ok.exfs, ok.funs, ok.frf⟩
section
variable {X : Cx} {pins : List (Addr × Obj)} {σ : St} {H : Hp} {s : Shared} {E : Value → Shared → Prop}
theorem Inv.wish (I : Inv X pins σ H s) (E : Value → Shared → Prop) : Inv (X.wish E) pins σ H s := ⟨I.ok.wish E, I.os, I.bare, I.base, I.loc, I.cell, I.free, I.freeC, I.pin, I.hok, I.len⟩
theorem Inv.unwish (I : Inv (X.wish E) pins σ H s) : Inv X pins σ H s := ⟨I.ok.unwish, I.os, I.bare, I.base, I.loc, I.cell, I.free, I.freeC, I.pin, I.hok, I.len⟩
theorem SP.unwish {D : Ends} {f : Flow} {s' : Shared} (h : SP (X.wish E) pins D f s') : SP X pins D f s' := by
  cases f with
  | next => obtain ⟨σ', H', I, q⟩ := h; exact ⟨σ', H', I.unwish, q⟩
  | brk => obtain ⟨σ', H', I, q⟩ := h; exact ⟨σ', H', I.unwish, q⟩
  | cont => obtain ⟨σ', H', I, q⟩ := h; exact ⟨σ', H', I.unwish, q⟩
  | ret u => obtain ⟨v, σ', H', I, r, q⟩ := h; exact ⟨v, σ', H', I.unwish, r, q⟩
theorem PE.nox {e : Expr} {t : TE} (h : PE X.nox e t) : PE X e t := fun pins s σ H Q I hw =>
  wpAny_mono (h pins s σ H Q (I.wish _) hw) (fun _ _ ⟨v, H', I', r, q⟩ => ⟨v, H', I'.unwish, r, q⟩) fun _ _ z => False.elim z
theorem PT.nox {e : Expr} {t : TT} (h : PT X.nox e t) : PT X e t := fun pins s σ H Q I hw =>
  wpAny_mono (h pins s σ H Q (I.wish _) hw) (fun _ _ ⟨H', I', q⟩ => ⟨H', I'.unwish, q⟩) fun _ _ z => False.elim z
theorem PSs.nox {st : List Stmt} {t : TS} (h : PSs X.nox st t) : PSs X st t := fun pins s σ H D I hw =>
  wpAny_mono (h pins s σ H D (I.wish _) hw) (fun _ _ q => q.unwish) fun _ _ z => False.elim z
end
section
variable {X : Cx} {st : Stmt} {rest : List Stmt} {t u : TS} {e : Expr} {te : TE} {pos : Pos}
def tNext : TS := fun D σ H => D.nx σ H
def tSeq (t u : TS) : TS := fun D σ H => t { D with nx := u D } σ H
theorem pss_nil : PSs X [] tNext := fun _ _ σ H _ I h => wpAny_execs_nil ⟨σ, H, I, h⟩
theorem pss_cons (h1 : PS X st t) (h2 : PSs X rest u) : PSs X (st :: rest) (tSeq t u) := by
  intro pins s σ H D I h
  refine wpAny_execs_cons (thn (h1 pins s σ H { D with nx := u D } I h) fun f s1 q => ?_)
  cases f with
  | next =>
    obtain ⟨σ', H', I', q⟩ := q
    exact h2 pins s1 σ' H' D I' q
  | ret v => exact q
  | brk => exact q
  | cont => exact q
theorem pss_one (h1 : PS X st t) : PSs X [st] t := by
  intro pins s σ H D I h
  refine wpAny_execs_cons (thn (h1 pins s σ H D I h) fun f s1 q => ?_)
  cases f with
  | next => exact wpAny_execs_nil q
  | ret v => exact q
  | brk => exact q
  | cont => exact q
def tCont : TS := fun D σ H => D.ct σ H
theorem ps_continue : PS X (.Continue pos) tCont := fun _ _ σ H _ I h => wpAny_Continue ⟨σ, H, I, h⟩
theorem Inv.quiet {pins : List (Addr × Obj)} {σ : St} {H : Hp} {s : Shared} (I : Inv X pins σ H s) : interactive X.env = false := by simp [interactive, I.ok.kind]
def tDrop (te : TE) : TS := fun D σ H => te σ H fun _ H1 => D.nx σ H1
theorem ps_expr (he : PE X e te) (hs : swapsWith e none pos.line X.env = pure false := by rfl) : PS X (.Expr e pos) (tDrop te) := by
  intro pins s σ H D I h
  exact wpAny_Expr_any (thn (he pins s σ H _ I h) fun v s1 ⟨x, H1, I1, r1, q1⟩ => ⟨σ, H1, I1, q1⟩) I.quiet hs
def tRet (te : TE) : TS := fun D σ H => te σ H D.rt
theorem ps_ret (he : PE X e te) : PS X (.Return (some e) pos) (tRet te) := by
  intro pins s σ H D I h
  exact wpAny_Return_some (thn (he pins s σ H _ I h) fun v s1 ⟨x, H1, I1, r1, q1⟩ => ⟨x, σ, H1, I1, r1, q1⟩)
def tRetN : TS := fun D _ H => D.rt .non H
def tIfS (c : TT) (t u : TS) : TS := fun D σ H => c σ H fun b H1 => if b = true then t D σ H1 else u D σ H1
theorem ps_if {c : Expr} {a b : List Stmt} {tc : TT} (hc : PT X c tc) (ha : PSs X a t) (hb : PSs X b u) : PS X (.If c a b pos) (tIfS tc t u) := by
  intro pins s σ H D I h
  refine wpAny_If (thn (hc pins s σ H _ I h) fun d s1 ⟨H1, I1, q1⟩ => ?_)
  cases d with
  | true => exact ha pins s1 σ H1 D I1 q1
  | false => exact hb pins s1 σ H1 D I1 q1
end
abbrev TG := V → St → Hp → (St → Hp → Prop) → Prop
abbrev TGs := List V → St → Hp → (St → Hp → Prop) → Prop
def PG (X : Cx) (target : Expr) (t : TG) : Prop :=
  ∀ (pins : List (Addr × Obj)) (s : Shared) (σ : St) (H : Hp) (v : V) (u : Value) (Q : St → Hp → Prop), Inv X pins σ H s → RelV v u → t v σ H Q →
    wpAny (model X.prog X.w) X.A (assign target X.env u) (fun _ s' => ∃ σ' H', Inv X pins σ' H' s' ∧ Q σ' H') X.xe s
def PGs (X : Cx) (ts : List Expr) (t : TGs) : Prop :=
  ∀ (pins : List (Addr × Obj)) (s : Shared) (σ : St) (H : Hp) (vs : List V) (us : List Value) (Q : St → Hp → Prop), Inv X pins σ H s → Vals vs us → t vs σ H Q →
    wpAny (model X.prog X.w) X.A (assignInOrder ((assignEach ts X.env).map (·.2)) us) (fun _ s' => ∃ σ' H', Inv X pins σ' H' s' ∧ Q σ' H') X.xe s
abbrev TSet := V → V → V → Hp → (Hp → Prop) → Prop
def PSet (X : Cx) (t : TSet) : Prop :=
  ∀ (pins : List (Addr × Obj)) (s : Shared) (σ : St) (H : Hp) (o i v : V) (ov iv u : Value) (Q : Hp → Prop), Inv X pins σ H s → RelV o ov → RelV i iv → RelV v u → t o i v H Q →
    wpAny (model X.prog X.w) X.A (setItem ov iv u) (fun _ s' => ∃ H', Inv X pins σ H' s' ∧ Q H') X.xe s
section
variable {X : Cx} {pos : Pos}
def gName (i : Nat) : TG := fun v σ H Q => Q (σ.set i (some v)) H
theorem pg_name {i : Nat} {x : Str} (hN : X.N.Nodup) (hi : X.N[i]? = some x) (hx : Loc X.env.scope x) (hf : X.fn x = true ∨ X.env.scope.names.lookup x = some .local := by first | exact .inl rfl | exact .inr rfl | assumption) : PG X (.Name x pos) (gName i) := by
  intro pins s σ H v u Q I r h
  exact wpAny_assign_Name (store_ok I hN hi hx r (fun s' I' => ⟨_, H, I', h⟩) hf)
def gNil : TGs := fun vs σ H Q => vs = [] ∧ Q σ H
def gCons (t : TG) (u : TGs) : TGs := fun vs σ H Q => ∃ v r, vs = v :: r ∧ t v σ H fun σ' H' => u r σ' H' Q
theorem pgs_nil : PGs X [] gNil := by
  intro pins s σ H vs us Q I r h
  obtain ⟨e, h⟩ := h
  subst e
  cases r
  exact assignInOrder_nil ⟨σ, H, I, h⟩
theorem pgs_cons {e : Expr} {es : List Expr} {t : TG} {u : TGs} (h1 : PG X e t) (h2 : PGs X es u)
    (hs : (assignEach (e :: es) X.env).map (·.2) = assign e X.env :: (assignEach es X.env).map (·.2) := by rfl) : PGs X (e :: es) (gCons t u) := by
  intro pins s σ H vs us Q I r h
  obtain ⟨v, vr, e1, h⟩ := h
  subst e1
  cases r with
  | cons r rr =>
    rw [hs]
    refine assignInOrder_cons (thn (h1 pins s σ H _ _ _ I r h) fun _ s1 ⟨σ1, H1, I1, q1⟩ => ?_)
    exact h2 pins s1 σ1 H1 _ _ Q I1 rr q1
def gTup (K : PySem.W.Frag) (n : Nat) (t : TGs) : TG := fun v σ H Q => ∃ a xs, v = .ref a ∧ SqT K H a xs ∧ xs.length = n ∧ t xs σ H Q
theorem pg_tup {es : List Expr} {k : Nat} {t : TGs} {n : Nat} (hc : X.calm = true) (h : PGs X es t)
    (hn : (assignEach es X.env).length = n := by rfl) (hst : (assignEach es X.env).findIdx? (·.1) = none := by rfl) : PG X (.Tuple es k pos) (gTup X.K n t) := by
  intro pins s σ H v u Q I r hw
  obtain ⟨a, xs, e1, hq, hl, hw⟩ := hw
  subst e1
  cases r
  obtain ⟨its, rv, ht, hz⟩ := I.tuple hq
  refine assign_Tuple_tuple (I.ok.hd hc) ht (by simp [hn, ← hl, rv.length]) hst fun h' hx => ?_
  have I1 : Inv X pins σ H { s with heap := h' } := I.kept (t' := s.toks) fun b o e => hx b o (Nat.ne_of_lt (Heap.lt_size e)) e
  exact h pins _ σ H xs _ Q I1 (by simpa using rv) hw
def gSub (to ti : TE) (t : TSet) : TG := fun v σ H Q => to σ H fun o H1 => ti σ H1 fun i H2 => t o i v H2 fun H3 => Q σ H3
theorem pg_sub {o i : Expr} {to ti : TE} {t : TSet} (ho : PE X o to) (hi : PE X i ti) (hs : PSet X t)
    (ha : ∀ v, assign (.Subscript o i pos) X.env v = (do
      let ov ← holding [v] (eval o X.env)
      let iv ← holding [v, ov] (eval i X.env)
      standAt pos
      holding [v, ov, iv] (setItem ov iv v)
      release [v, ov, iv] []) := by intro _; rfl) : PG X (.Subscript o i pos) (gSub to ti t) := by
  intro pins s σ H v u Q I r h
  rw [ha]
  refine wpAny_bind (wpAny_holding (thn (ho pins s σ H _ I h) fun ov s1 ⟨x, H1, I1, r1, q1⟩ => ?_))
  refine wpAny_bind (wpAny_holding (thn (hi pins s1 σ H1 _ I1 q1) fun iv s2 ⟨y, H2, I2, r2, q2⟩ => ?_))
  refine wpAny_bind (wpAny_standAt (wpAny_bind (wpAny_holding (thn (hs pins s2 σ H2 x y v ov iv u _ I2 r1 r2 r q2) fun _ s3 ⟨H3, I3, q3⟩ => ?_))))
  exact wpAny_release ⟨σ, H3, I3, q3⟩
def tAsg (te : TE) (g : TG) : TS := fun D σ H => te σ H fun x H1 => g x σ H1 D.nx
theorem ps_asg {tg e : Expr} {te : TE} {g : TG} (he : PE X e te) (hg : PG X tg g) (hs : swapsWithSole [tg] e pos.line X.env = pure false := by rfl) (hw : swappedStores [tg] e X.env = pure none := by rfl)
    (h1 : (assignEach [tg] X.env).map (·.2) = [assign tg X.env] := by rfl) : PS X (.Assign [tg] e pos) (tAsg te g) := by
  intro pins s σ H D I h
  refine wpAny_Assign_stores (thn (he pins s σ H _ I h) fun v s1 ⟨x, H1, I1, r1, q1⟩ => ?_) hs hw
  rw [h1]
  exact thn (hg pins s1 σ H1 x v _ I1 r1 q1) fun _ s2 q => q
theorem ps_set {i : Nat} {x : Str} {e : Expr} {te : TE} {pos' : Pos} (hN : X.N.Nodup) (hi : X.N[i]? = some x) (hx : Loc X.env.scope x) (he : PE X e te) (hs : swapsWith e (some (.Name x pos')) pos.line X.env = pure false := by rfl) (hf : X.fn x = true ∨ X.env.scope.names.lookup x = some .local := by first | exact .inl rfl | exact .inr rfl | assumption) :
    PS X (.Assign [.Name x pos'] e pos) (tAsg te (gName i)) := by
  intro pins s σ H D I h
  refine wpAny_Assign_Name (thn (he pins s σ H _ I h) fun v s1 ⟨y, H1, I1, r1, q1⟩ => ?_) hs
  exact store_ok I1 hN hi hx r1 (fun s2 I2 => ⟨_, H1, I2, q1⟩) hf
end
section
variable {X : Cx} {pos : Pos}
def tWhile (c : TT) (tb : TS) : TS := fun D σ H => ∃ W : Nat → St → Hp → Prop, (∃ m, W m σ H) ∧ ∀ m σ H, W m σ H →
  c σ H fun b H1 => if b = true then ∃ N : St → Hp → Prop, (∀ σ' H', N σ' H' → ∃ m', m' < m ∧ W m' σ' H') ∧ tb { D with nx := N, ct := N, bk := D.nx } σ H1 else D.nx σ H1
theorem ps_while {c : Expr} {body : List Stmt} {tc : TT} {tb : TS} (hp : PassesOwn (model X.prog X.w) X.A X.env X.xe) (hc : PT X c tc) (hb : PSs X body tb) : PS X (.While c body [] pos) (tWhile tc tb) := by
  intro pins s σ H D I h
  obtain ⟨W, ⟨m0, w0⟩, turn⟩ := h
  refine wpAny_While (codeAny_whileLoop (fun n s' => ∃ σ' H', Inv X pins σ' H' s' ∧ W n σ' H') ?_ m0 ⟨σ, H, I, w0⟩)
  rintro n s1 ⟨σ1, H1, I1, w1⟩
  refine wpAny_passesOwn hp (thn (hc pins s1 σ1 H1 _ I1 (turn n σ1 H1 w1)) fun b s2 ⟨H2, I2, q2⟩ => ?_)
  cases b with
  | true =>
    obtain ⟨N, hN, q2⟩ := q2
    rw [if_pos rfl]
    refine wpAny_passesOwn hp (thn (hb pins s2 σ1 H2 _ I2 q2) fun f s3 q3 => ?_)
    cases f with
    | next =>
      obtain ⟨σ3, H3, I3, n3⟩ := q3
      obtain ⟨m', hm, w3⟩ := hN σ3 H3 n3
      exact ⟨m', hm, σ3, H3, I3, w3⟩
    | cont =>
      obtain ⟨σ3, H3, I3, n3⟩ := q3
      obtain ⟨m', hm, w3⟩ := hN σ3 H3 n3
      exact ⟨m', hm, σ3, H3, I3, w3⟩
    | brk => exact q3
    | ret v => exact q3
  | false =>
    rw [if_neg Bool.false_ne_true]
    exact wpAny_execs_nil ⟨σ1, H2, I2, q2⟩
end
structure It where
  go : Nat → Hp → Prop
  yld : Nat → Hp → V → Hp → Prop
  stop : Nat → Hp → Prop
def FpOk (X : Cx) (pins : List (Addr × Obj)) (H : Hp) (b : Addr) : Prop :=
  H b = none ∧ b ≠ X.env.locals ∧ b ∉ X.fs ∧ (b ∈ X.ex ∨ X.s₀.heap.objs.size ≤ b) ∧ (∀ x c, X.env.cells.lookup x = some c → c ≠ b) ∧ ∀ p ∈ X.pn ++ pins, p.1 ≠ b
theorem Inv.fpOk {X : Cx} {pins : List (Addr × Obj)} {σ : St} {H H' : Hp} {s : Shared} {b : Addr} (I : Inv X pins σ H s) (hb : s.heap.objs.size ≤ b) (hn : H' b = none) : FpOk X pins H' b := by
  refine ⟨hn, Nat.ne_of_gt (Nat.lt_of_lt_of_le I.lt hb), I.nofs hb, .inr (Nat.le_trans I.sz hb), fun x c e z => ?_, fun p hp z => ?_⟩
  · obtain ⟨v, q⟩ := I.cell x c e
    exact absurd (Nat.lt_of_lt_of_le q.lt (by rw [z]; exact hb)) (Nat.lt_irrefl _)
  · exact absurd (Nat.lt_of_lt_of_le (Heap.lt_size (I.pin p hp).1) (by rw [z]; exact hb)) (Nat.lt_irrefl _)
structure Turn (P : Program) (w : World) (K : PySem.W.Frag) (tg : Expr) (J : It) (fp : List Addr) (it : Addr) (tn : Nat → Heap → Prop) : Prop where
  mem : it ∈ fp
  obj : ∀ i h, tn i h → ∀ b ∈ fp, ∃ o, h.get? b = some o ∧ ∀ v, o.data ≠ .cell v
  keep : ∀ i h h', tn i h → (∀ b ∈ fp, ∀ o, h.get? b = some o → h'.get? b = some o) → tn i h'
  item : ∀ (X : Cx), X.prog = P → X.w = w → X.K = K → X.calm = true → ∀ (i : Nat) (pins : List (Addr × Obj)) (s : Shared) (σ : St) (H : Hp) (E : Value → Shared → Prop), Inv X pins σ H s → (∀ b ∈ fp, FpOk X pins H b) → tn i s.heap → J.go i H →
    wpAny (model P w) X.A (pyNext (.ref it)) (fun r s1 => ∃ u, r = some u ∧
      wpAny (model P w) X.A (letOwnedTupleGo tg (.ref it) u) (fun _ s2 => ∃ x H', Inv X pins σ H' s2 ∧ RelV x u ∧ J.yld i H x H' ∧ tn (i + 1) s2.heap ∧ ∀ b ∈ fp, H' b = none) E s1) E s
  done : ∀ (X : Cx), X.prog = P → X.w = w → X.K = K → X.calm = true → ∀ (i : Nat) (pins : List (Addr × Obj)) (s : Shared) (σ : St) (H : Hp) (E : Value → Shared → Prop), Inv X pins σ H s → (∀ b ∈ fp, FpOk X pins H b) → tn i s.heap → J.stop i H →
    wpAny (model P w) X.A (pyNext (.ref it)) (fun r s1 => r = none ∧ Inv X pins σ H s1) E s
  self : ∀ (A : Around) (i : Nat) (s : Shared) (Q : Value → Shared → Prop) (E : Value → Shared → Prop), tn i s.heap → Q (.ref it) s → wpAny (model P w) A (pyIter (.ref it)) Q E s
abbrev TI := St → Hp → (It → Hp → Prop) → Prop
def PIE (X : Cx) (pins : List (Addr × Obj)) (σ : St) (tg : Expr) (R : It → Hp → Prop) (itv : Value) (s2 : Shared) : Prop :=
  ∃ (it : Addr) (fp : List Addr) (tn : Nat → Heap → Prop) (J : It) (H' : Hp), itv = .ref it ∧ Inv X pins σ H' s2 ∧ Turn X.prog X.w X.K tg J fp it tn ∧ tn 0 s2.heap ∧ (∀ b ∈ fp, FpOk X pins H' b) ∧ R J H'
def PI (X : Cx) (tg iter : Expr) (wi : TI) : Prop :=
  ∀ (pins : List (Addr × Obj)) (s : Shared) (σ : St) (H : Hp) (R : It → Hp → Prop), Inv X pins σ H s → wi σ H R →
    wpAny (model X.prog X.w) X.A (eval iter X.env) (fun v s1 => wpAny (model X.prog X.w) X.A (pyIter v) (PIE X pins σ tg R) X.xe s1) X.xe s
theorem go_of {M : Model} {A : Around} {E : Value → Shared → Prop} {s : Shared} {tg : Expr} {it : Addr} {u : Value} {o : Obj} {n : String} {vs : Array Value} {Q : Unit → Shared → Prop} (ho : s.heap.get? it = some o) (hc : o.cls = .type n) (hd : o.data = .fields vs)
    (hn : ["enumerate", "zip", "dict_itemiterator", "dict_reverseitemiterator", "odict_iterator", "itertools.zip_longest", "itertools.pairwise"].contains n = false) (hQ : Q () s) : wpAny M A (letOwnedTupleGo tg (.ref it) u) Q E s := by
  unfold letOwnedTupleGo
  cases tg <;> first
    | exact wpAny_pure hQ
    | (cases u <;> first
        | exact wpAny_pure hQ
        | (refine wpAny_bind (wpAny_load ho ?_)
           rw [hc, hd]
           show wpAny M A (if (["enumerate", "zip", "dict_itemiterator", "dict_reverseitemiterator", "odict_iterator", "itertools.zip_longest", "itertools.pairwise"].contains n && vs[0]? == some (rawInt _)) = true then _ else _) Q E s
           rw [if_neg (by intro h; rw [hn, Bool.false_and] at h; cases h)]
           exact wpAny_pure hQ))
def Itl (K : PySem.W.Frag) (a : Addr) : It :=
  ⟨fun i H => ∃ xs x, SqL K H a xs ∧ xs[i]? = some x, fun i H x H' => H' = H ∧ ∀ xs, SqL K H a xs → xs[i]? = some x, fun i H => ∃ xs, SqL K H a xs ∧ xs.length ≤ i⟩
def Itt (K : PySem.W.Frag) (a : Addr) : It :=
  ⟨fun i H => ∃ xs x, SqT K H a xs ∧ xs[i]? = some x, fun i H x H' => H' = H ∧ ∀ xs, SqT K H a xs → xs[i]? = some x, fun i H => ∃ xs, SqT K H a xs ∧ xs.length ≤ i⟩
def Itr (lo : Int) (n : Nat) : It := ⟨fun i _ => i < n, fun i H x H' => H' = H ∧ x = .int (lo + i), fun i _ => n ≤ i⟩
theorem turn_list {P : Program} {w : World} {K : PySem.W.Frag} {tg : Expr} (a it : Addr) : Turn P w K tg (Itl K a) [it] it (fun i h => h.IsListIter it a i) where
  mem := by simp
  obj := fun i h st b hb => by
    have e : b = it := by simpa using hb
    subst e
    obtain ⟨o, e, c, d⟩ := st
    exact ⟨o, e, fun v z => by rw [d] at z; cases z⟩
  keep := fun i h h' st k => st.at fun o e => k it (by simp) o e
  item := by
    intro X hP hw hK hc i pins s σ H E I hf st hg
    subst hP hw hK
    obtain ⟨xs, x, hq, hx⟩ := hg
    obtain ⟨its, rv, p, hz⟩ := I.list hq
    obtain ⟨u, hu, ru⟩ := rv.get hx
    obtain ⟨f0, f1, f2, f3, f4, f5⟩ := hf it (by simp)
    refine wpAny_pyNext_list_item st p.isList (x := u) (by simpa using hu) fun h' st' sb => ?_
    have I1 : Inv X pins σ H { s with heap := h' } := I.turned (t' := s.toks) (fun b o hb e => (sb.2 b hb).trans e) f0 f1 f3 f4 f5
    obtain ⟨o, e, c, d⟩ := id st'
    exact ⟨u, rfl, go_of (s := { s with heap := h' }) e c d (by decide) ⟨x, H, I1, ru, ⟨rfl, fun ys hy => by rw [I.list_inj hy hq]; exact hx⟩, st', fun b hb => (hf b hb).1⟩⟩
  done := by
    intro X hP hw hK hc i pins s σ H E I hf st hg
    subst hP hw hK
    obtain ⟨xs, hq, hx⟩ := hg
    obtain ⟨its, rv, p, hz⟩ := I.list hq
    obtain ⟨f0, f1, f2, f3, f4, f5⟩ := hf it (by simp)
    have hl := rv.length
    exact wpAny_pyNext_list_end (I.ok.hd hc) st p.isList (by simp; omega) fun h' eb => ⟨rfl, I.turned (t' := s.toks) (fun b o hb e => eb b o hb e) f0 f1 f3 f4 f5⟩
  self := fun _ _ _ _ _ st h => wpAny_pyIter_listiter st h
theorem turn_tuple {P : Program} {w : World} {K : PySem.W.Frag} {tg : Expr} (a it : Addr) : Turn P w K tg (Itt K a) [it] it (fun i h => h.IsTupleIter it a i) where
  mem := by simp
  obj := fun i h st b hb => by
    have e : b = it := by simpa using hb
    subst e
    obtain ⟨o, e, c, d⟩ := st
    exact ⟨o, e, fun v z => by rw [d] at z; cases z⟩
  keep := fun i h h' st k => st.at fun o e => k it (by simp) o e
  item := by
    intro X hP hw hK hc i pins s σ H E I hf st hg
    subst hP hw hK
    obtain ⟨xs, x, hq, hx⟩ := hg
    obtain ⟨its, rv, p, hz⟩ := I.tuple hq
    obtain ⟨u, hu, ru⟩ := rv.get hx
    obtain ⟨f0, f1, f2, f3, f4, f5⟩ := hf it (by simp)
    refine wpAny_pyNext_tuple_item st (show s.heap.IsTuple a its.toArray from p) (x := u) (by simpa using hu) fun h' st' sb => ?_
    have I1 : Inv X pins σ H { s with heap := h' } := I.turned (t' := s.toks) (fun b o hb e => (sb.2 b hb).trans e) f0 f1 f3 f4 f5
    obtain ⟨o, e, c, d⟩ := id st'
    exact ⟨u, rfl, go_of (s := { s with heap := h' }) e c d (by decide) ⟨x, H, I1, ru, ⟨rfl, fun ys hy => by rw [I.tuple_inj hy hq]; exact hx⟩, st', fun b hb => (hf b hb).1⟩⟩
  done := by
    intro X hP hw hK hc i pins s σ H E I hf st hg
    subst hP hw hK
    obtain ⟨xs, hq, hx⟩ := hg
    obtain ⟨its, rv, p, hz⟩ := I.tuple hq
    obtain ⟨f0, f1, f2, f3, f4, f5⟩ := hf it (by simp)
    have hl := rv.length
    exact wpAny_pyNext_tuple_end (I.ok.hd hc) st (show s.heap.IsTuple a its.toArray from p) (by simp; omega) fun h' eb => ⟨rfl, I.turned (t' := s.toks) (fun b o hb e => eb b o hb e) f0 f1 f3 f4 f5⟩
  self := fun _ _ _ _ _ st h => wpAny_pyIter_tupleiter st h
theorem turn_range {P : Program} {w : World} {K : PySem.W.Frag} {tg : Expr} (it : Addr) (lo : Int) (n : Nat) : Turn P w K tg (Itr lo n) [it] it (fun i h => IsRangeIter h it (lo + (i : Nat) * 1) ((n : Int) - (i : Nat)) 1) where
  mem := by simp
  obj := fun i h st b hb => by
    have e : b = it := by simpa using hb
    subst e
    exact ⟨_, st, fun v z => by
      have z' : Data.fields _ = Data.cell v := z
      cases z'⟩
  keep := fun i h h' st k => k it (by simp) _ st
  item := by
    intro X hP hw hK hc i pins s σ H E I hf st hg
    subst hP hw hK
    obtain ⟨f0, f1, f2, f3, f4, f5⟩ := hf it (by simp)
    have W := Walks.range (prog := X.prog) (w := X.w) (I.ok.hd hc) it lo 1 n
    refine W.item i s _ _ hg st fun v h' tk hv st' kk => ?_
    obtain ⟨t, rfl⟩ := hv
    have I1 : Inv X pins σ H { s with heap := h', toks := tk } := I.turned (fun b o hb e => kk b o (by simpa using hb) e) f0 f1 f3 f4 f5
    refine ⟨_, rfl, go_of (s := { s with heap := h', toks := tk }) (n := "range_iterator") st' rfl rfl (by decide) ⟨.int (lo + i), H, I1, ⟨t, ?_⟩, ⟨rfl, rfl⟩, st', fun b hb => (hf b hb).1⟩⟩
    rw [Int.mul_one]
  done := by
    intro X hP hw hK hc i pins s σ H E I hf st hg
    subst hP hw hK
    obtain ⟨f0, f1, f2, f3, f4, f5⟩ := hf it (by simp)
    exact wpAny_pyNext_range_end (I.ok.hd hc) st (by have : n ≤ i := hg; omega) fun h' eb => ⟨rfl, I.turned (t' := s.toks) (fun b o hb e => eb b o hb e) f0 f1 f3 f4 f5⟩
  self := fun _ _ _ _ _ st h => wpAny_pyIter_rangeiter st h
end L2
namespace L2
open PySem PySem.Spec PyProof.Rows
section
variable {X : Cx} {tg : Expr}
def iList (K : PySem.W.Frag) (tl : TE) : TI := fun σ H R => tl σ H fun x H1 => ∃ a, x = .ref a ∧ (∃ xs, SqL K H1 a xs) ∧ R (Itl K a) H1
def iTup (K : PySem.W.Frag) (tl : TE) : TI := fun σ H R => tl σ H fun x H1 => ∃ a, x = .ref a ∧ (∃ xs, SqT K H1 a xs) ∧ R (Itt K a) H1
theorem pi_list {l : Expr} {tl : TE} (hl : PE X l tl) : PI X tg l (iList X.K tl) := by
  intro pins s σ H R I h
  refine thn (hl pins s σ H _ I h) fun v s1 ⟨x, H1, I1, r1, q1⟩ => ?_
  obtain ⟨a, e, ⟨xs, hq⟩, q⟩ := q1
  subst e
  cases r1
  obtain ⟨its, rv, p, hz⟩ := I1.list hq
  refine wpAny_pyIter_list p.isList ?_
  refine ⟨s1.heap.objs.size, [s1.heap.objs.size], _, _, H1, rfl, I1.kept (t' := s1.toks) fun b o e => Heap.get?_push_of_some _ e, turn_list a _, ⟨_, Heap.get?_push_size _ rfl, rfl, rfl⟩, fun b hb => ?_, q⟩
  have e : b = s1.heap.objs.size := by simpa using hb
  subst e
  exact I1.fpOk (Nat.le_refl _) (I1.hok.fresh (Nat.le_refl _))
theorem pi_tup {l : Expr} {tl : TE} (hl : PE X l tl) : PI X tg l (iTup X.K tl) := by
  intro pins s σ H R I h
  refine thn (hl pins s σ H _ I h) fun v s1 ⟨x, H1, I1, r1, q1⟩ => ?_
  obtain ⟨a, e, ⟨xs, hq⟩, q⟩ := q1
  subst e
  cases r1
  obtain ⟨its, rv, p, hz⟩ := I1.tuple hq
  refine wpAny_pyIter_tuple (show s1.heap.IsTuple a its.toArray from p) ?_
  refine ⟨s1.heap.objs.size, [s1.heap.objs.size], _, _, H1, rfl, I1.kept (t' := s1.toks) fun b o e => Heap.get?_push_of_some _ e, turn_tuple a _, ⟨_, Heap.get?_push_size _ rfl, rfl, rfl⟩, fun b hb => ?_, q⟩
  have e : b = s1.heap.objs.size := by simpa using hb
  subst e
  exact I1.fpOk (Nat.le_refl _) (I1.hok.fresh (Nat.le_refl _))
theorem range_it {pins : List (Addr × Obj)} {σ : St} {H : Hp} {s : Shared} {R : It → Hp → Prop} {E : Value → Shared → Prop} {lo hi : Int} {t u v : Tok} {tk : Nat} (I : Inv X pins σ H s) (h1 : -(2 ^ 62) ≤ lo) (h2 : lo < 2 ^ 62) (h3 : -(2 ^ 62) ≤ hi) (h4 : hi < 2 ^ 62)
    (q : R (Itr lo (hi - lo).toNat) H) : wpAny (model X.prog X.w) X.A (pyIter (.ref s.heap.objs.size)) (PIE X pins σ tg R) E { s with heap := s.heap.push { cls := .type "range", data := .fields #[.int lo t, .int hi u, .int 1 v] }, toks := tk } := by
  refine wpAny_pyIter_range (IsRange.new ..) (small_one h1 h2 h3 h4) ?_
  have I1 : Inv X pins σ H { s with heap := s.heap.push { cls := .type "range", data := .fields #[.int lo t, .int hi u, .int 1 v] }, toks := tk } := I.kept fun b o e => Heap.get?_push_of_some _ e
  refine ⟨(s.heap.push { cls := .type "range", data := .fields #[.int lo t, .int hi u, .int 1 v] }).objs.size, [(s.heap.push { cls := .type "range", data := .fields #[.int lo t, .int hi u, .int 1 v] }).objs.size], _, _, H, rfl,
    I1.kept (t' := tk) fun b o e => Heap.get?_push_of_some _ e, turn_range _ lo (hi - lo).toNat, ?_, fun b hb => ?_, q⟩
  · have e1 : lo + ((0 : Nat) : Int) * 1 = lo := by simp
    have e2 : (((hi - lo).toNat : Nat) : Int) - ((0 : Nat) : Int) = Builtin.Range.rangeSize lo hi 1 := by rw [rangeSize_one]; split <;> omega
    show IsRangeIter _ _ (lo + ((0 : Nat) : Int) * 1) ((((hi - lo).toNat : Nat) : Int) - ((0 : Nat) : Int)) 1
    rw [e1, e2]
    exact Heap.get?_push_size _ rfl
  · have e : b = (s.heap.push { cls := .type "range", data := .fields #[.int lo t, .int hi u, .int 1 v] }).objs.size := by simpa using hb
    subst e
    exact I1.fpOk (Nat.le_refl _) (I1.hok.fresh (Nat.le_refl _))
def iRng1 (ta : TA) : TI := fun σ H R => ta σ H fun vs H1 => ∃ j : Int, vs = [.int j] ∧ -(2 ^ 62) ≤ j ∧ j < 2 ^ 62 ∧ R (Itr 0 j.toNat) H1
def iRng2 (ta : TA) : TI := fun σ H R => ta σ H fun vs H1 => ∃ i j : Int, vs = [.int i, .int j] ∧ (-(2 ^ 62) ≤ i ∧ i < 2 ^ 62 ∧ -(2 ^ 62) ≤ j ∧ j < 2 ^ 62) ∧ R (Itr i (j - i).toNat) H1
theorem pi_range1 {a : Expr} {ta : TA} {p pos : Pos} (hg : Gl X "range") (hm : X.mg "range" = none) (ha : PA X [a] ta) (hs : starEach [a] X.env = [(false, eval a X.env)] := by rfl) : PI X tg (.Call (.Name "range" p) [a] [] pos) (iRng1 ta) := by
  intro pins s σ H R I h
  refine Call_ (ld_blt I hg hm boot_range (PyProof.Rows.callWith_type1 (thn (ha pos pins s σ H _ I h) fun us s1 ⟨vs, H1, I1, r1, q1⟩ => ?_) hs rfl))
  obtain ⟨j, e, q1, q2, q⟩ := q1
  subst e
  cases r1 with
  | cons r rr =>
    cases rr
    obtain ⟨t, rfl⟩ := r
    exact call_range_1 (range_it I1 (by omega) (by omega) q1 q2 (by simpa using q))
def tFor (wi : TI) (g : TG) (tb : TS) : TS := fun D σ H => wi σ H fun J H1 => ∃ W : Nat → Nat → St → Hp → Prop, (∃ m, W 0 m σ H1) ∧ ∀ i m σ H, W i m σ H →
  (J.stop i H ∧ D.nx σ H) ∨ (J.go i H ∧ ∃ N : St → Hp → Prop, (∀ σ' H', N σ' H' → ∃ m', m' < m ∧ W (i + 1) m' σ' H') ∧ ∀ x H', J.yld i H x H' → g x σ H' fun σ2 H2 => tb { D with nx := N, ct := N, bk := D.nx } σ2 H2)
def pinsAt (fp : List Addr) (h : Heap) : List (Addr × Obj) := fp.filterMap fun b => (h.get? b).map fun o => (b, o)
theorem mem_pinsAt {fp : List Addr} {h : Heap} {b : Addr} {o : Obj} (hb : b ∈ fp) (e : h.get? b = some o) : (b, o) ∈ pinsAt fp h := List.mem_filterMap.mpr ⟨b, hb, by rw [e]; rfl⟩
theorem of_pinsAt {fp : List Addr} {h : Heap} {p : Addr × Obj} (hp : p ∈ pinsAt fp h) : p.1 ∈ fp ∧ h.get? p.1 = some p.2 := by
  obtain ⟨b, hb, e⟩ := List.mem_filterMap.mp hp
  cases q : h.get? b with
  | none => rw [q] at e; cases e
  | some o =>
    rw [q] at e
    have e' : (b, o) = p := Option.some.inj e
    subst e'
    exact ⟨hb, q⟩
theorem Inv.pinned {pins : List (Addr × Obj)} {σ : St} {H : Hp} {s : Shared} {fp : List Addr} (I : Inv X pins σ H s) (hf : ∀ b ∈ fp, FpOk X pins H b) (ho : ∀ b ∈ fp, ∃ o, s.heap.get? b = some o ∧ ∀ v, o.data ≠ .cell v) : Inv X (pins ++ pinsAt fp s.heap) σ H s :=
  I.pins_of fun p hp => (List.mem_append.mp hp).elim (fun z => I.pin p (List.mem_append_right _ z)) fun z => by
    obtain ⟨hb, e⟩ := of_pinsAt z
    obtain ⟨f0, f1, f2, _⟩ := hf p.1 hb
    obtain ⟨o, e', d⟩ := ho p.1 hb
    rw [e] at e'; cases e'
    exact ⟨e, f0, f1, f2, d⟩
theorem Inv.unpinned {pins pl : List (Addr × Obj)} {σ : St} {H : Hp} {s : Shared} (I : Inv X (pins ++ pl) σ H s) : Inv X pins σ H s := I.pins_of fun p hp => I.pin p (List.mem_append_right _ (List.mem_append_left _ hp))
theorem ps_for {iter : Expr} {body : List Stmt} {wi : TI} {g : TG} {tb : TS} {pos : Pos} (hp : PassesOwn (model X.prog X.w) X.A X.env X.xe) (hc : X.calm = true) (hi : PI X tg iter wi) (hg : PG X tg g) (hb : PSs X body tb)
    (hs : ∀ x, foldedSetIterable iter X.env x = pure x := by intro _; rfl) : PS X (.For tg iter body [] pos) (tFor wi g tb) := by
  intro pins s σ H D I h
  refine wpAny_For (thn (hi pins s σ H _ I h) fun v s1 h1 => thn h1 fun itv s2 h2 => ?_) hs
  obtain ⟨it, fp, tn, J, H2, e, I2, T, st2, f2, W, ⟨m0, w0⟩, turn⟩ := h2
  subst e
  have stat : ∀ {H' : Hp}, (∀ b ∈ fp, H' b = none) → ∀ b ∈ fp, FpOk X pins H' b := fun hn b hb => ⟨hn b hb, (f2 b hb).2⟩
  refine codeAny_forLoop_any (fun n s' => ∃ i σ' H', Inv X pins σ' H' s' ∧ tn i s'.heap ∧ (∀ b ∈ fp, H' b = none) ∧ W i n σ' H') ?_ m0 ⟨0, σ, H2, I2, st2, fun b hb => (f2 b hb).1, w0⟩
  rintro n s3 ⟨i, σ3, H3, I3, st3, fr3, w3⟩
  rcases turn i n σ3 H3 w3 with ⟨stop, qn⟩ | ⟨go, N, hN, step⟩
  · refine wpAny_passesOwn hp (thn (T.done X rfl rfl rfl hc i pins s3 σ3 H3 X.xe I3 (stat fr3) st3 stop) fun r s4 ⟨hr, I4⟩ => ?_)
    subst hr
    exact wpAny_execs_nil ⟨σ3, H3, I4, qn⟩
  · refine wpAny_passesOwn hp (thn (T.item X rfl rfl rfl hc i pins s3 σ3 H3 X.xe I3 (stat fr3) st3 go) fun r s4 ⟨u, hr, h4⟩ => ?_)
    subst hr
    refine wpAny_passesOwn hp (thn h4 fun _ s5 ⟨x, H5, I5, r5, y5, st5, fr5⟩ => ?_)
    have I5' := I5.pinned (stat fr5) (T.obj _ _ st5)
    refine wpAny_passesOwn hp (thn (hg _ s5 σ3 H5 x u _ I5' r5 (step x H5 y5)) fun _ s6 ⟨σ6, H6, I6, q6⟩ => ?_)
    refine wpAny_passesOwn hp (thn (hb _ s6 σ6 H6 _ I6 q6) fun f s7 q7 => ?_)
    have again : ∀ {σ7 : St} {H7 : Hp}, Inv X (pins ++ pinsAt fp s5.heap) σ7 H7 s7 → N σ7 H7 → ∃ m, m < n ∧ ∃ i σ' H', Inv X pins σ' H' s7 ∧ tn i s7.heap ∧ (∀ b ∈ fp, H' b = none) ∧ W i m σ' H' := fun {σ7 H7} I7 n7 => by
      obtain ⟨m', hm, w7⟩ := hN σ7 H7 n7
      refine ⟨m', hm, i + 1, σ7, H7, I7.unpinned, T.keep _ _ _ st5 fun b hb o e => (I7.pin (b, o) (List.mem_append_right _ (List.mem_append_right _ (mem_pinsAt hb e)))).1, fun b hb => ?_, w7⟩
      obtain ⟨o, e, d⟩ := T.obj _ _ st5 b hb
      exact (I7.pin (b, o) (List.mem_append_right _ (List.mem_append_right _ (mem_pinsAt hb e)))).2.1
    cases f with
    | next => obtain ⟨σ7, H7, I7, n7⟩ := q7; exact again I7 n7
    | cont => obtain ⟨σ7, H7, I7, n7⟩ := q7; exact again I7 n7
    | brk => obtain ⟨σ7, H7, I7, q7⟩ := q7; exact ⟨σ7, H7, I7.unpinned, q7⟩
    | ret v => obtain ⟨x7, σ7, H7, I7, r7, q7⟩ := q7; exact ⟨x7, σ7, H7, I7.unpinned, r7, q7⟩
end
theorem for_list {K : PySem.W.Frag} {a : Addr} {xs : List V} {g : TG} {tb : TS} {D : Ends} {σ : St} {H : Hp} (Pv : Nat → St → Hp → Prop) (h0 : Pv 0 σ H) (hl : ∀ i σ H, i ≤ xs.length → Pv i σ H → SqL K H a xs)
    (hs : ∀ i x σ H, xs[i]? = some x → Pv i σ H → g x σ H fun σ2 H2 => tb { D with nx := Pv (i + 1), ct := Pv (i + 1), bk := D.nx } σ2 H2) (hd : ∀ σ H, Pv xs.length σ H → D.nx σ H) :
    ∃ W : Nat → Nat → St → Hp → Prop, (∃ m, W 0 m σ H) ∧ ∀ i m σ H, W i m σ H →
      ((Itl K a).stop i H ∧ D.nx σ H) ∨ ((Itl K a).go i H ∧ ∃ N : St → Hp → Prop, (∀ σ' H', N σ' H' → ∃ m', m' < m ∧ W (i + 1) m' σ' H') ∧ ∀ x H', (Itl K a).yld i H x H' → g x σ H' fun σ2 H2 => tb { D with nx := N, ct := N, bk := D.nx } σ2 H2) := by
  refine ⟨fun i m σ H => m = xs.length - i ∧ i ≤ xs.length ∧ Pv i σ H, ⟨xs.length, by simp, Nat.zero_le _, h0⟩, ?_⟩
  rintro i m σ H ⟨rfl, hi, p⟩
  have q := hl i σ H hi p
  by_cases hlt : i < xs.length
  · refine .inr ⟨⟨xs, xs[i], q, by simp [hlt]⟩, Pv (i + 1), fun σ' H' p' => ⟨xs.length - (i + 1), by omega, rfl, hlt, p'⟩, fun x H' y => ?_⟩
    obtain ⟨e, y⟩ := y
    subst e
    exact hs i x σ _ (y xs q) p
  · have e : i = xs.length := by omega
    subst e
    exact .inl ⟨⟨xs, q, Nat.le_refl _⟩, hd σ H p⟩
theorem for_tup {K : PySem.W.Frag} {a : Addr} {xs : List V} {g : TG} {tb : TS} {D : Ends} {σ : St} {H : Hp} (Pv : Nat → St → Hp → Prop) (h0 : Pv 0 σ H) (hl : ∀ i σ H, i ≤ xs.length → Pv i σ H → SqT K H a xs)
    (hs : ∀ i x σ H, xs[i]? = some x → Pv i σ H → g x σ H fun σ2 H2 => tb { D with nx := Pv (i + 1), ct := Pv (i + 1), bk := D.nx } σ2 H2) (hd : ∀ σ H, Pv xs.length σ H → D.nx σ H) :
    ∃ W : Nat → Nat → St → Hp → Prop, (∃ m, W 0 m σ H) ∧ ∀ i m σ H, W i m σ H →
      ((Itt K a).stop i H ∧ D.nx σ H) ∨ ((Itt K a).go i H ∧ ∃ N : St → Hp → Prop, (∀ σ' H', N σ' H' → ∃ m', m' < m ∧ W (i + 1) m' σ' H') ∧ ∀ x H', (Itt K a).yld i H x H' → g x σ H' fun σ2 H2 => tb { D with nx := N, ct := N, bk := D.nx } σ2 H2) := by
  refine ⟨fun i m σ H => m = xs.length - i ∧ i ≤ xs.length ∧ Pv i σ H, ⟨xs.length, by simp, Nat.zero_le _, h0⟩, ?_⟩
  rintro i m σ H ⟨rfl, hi, p⟩
  have q := hl i σ H hi p
  by_cases hlt : i < xs.length
  · refine .inr ⟨⟨xs, xs[i], q, by simp [hlt]⟩, Pv (i + 1), fun σ' H' p' => ⟨xs.length - (i + 1), by omega, rfl, hlt, p'⟩, fun x H' y => ?_⟩
    obtain ⟨e, y⟩ := y
    subst e
    exact hs i x σ _ (y xs q) p
  · have e : i = xs.length := by omega
    subst e
    exact .inl ⟨⟨xs, q, Nat.le_refl _⟩, hd σ H p⟩
theorem for_range {lo : Int} {n : Nat} {g : TG} {tb : TS} {D : Ends} {σ : St} {H : Hp} (Pv : Nat → St → Hp → Prop) (h0 : Pv 0 σ H)
    (hs : ∀ i σ H, i < n → Pv i σ H → g (.int (lo + i)) σ H fun σ2 H2 => tb { D with nx := Pv (i + 1), ct := Pv (i + 1), bk := D.nx } σ2 H2) (hd : ∀ σ H, Pv n σ H → D.nx σ H) :
    ∃ W : Nat → Nat → St → Hp → Prop, (∃ m, W 0 m σ H) ∧ ∀ i m σ H, W i m σ H →
      ((Itr lo n).stop i H ∧ D.nx σ H) ∨ ((Itr lo n).go i H ∧ ∃ N : St → Hp → Prop, (∀ σ' H', N σ' H' → ∃ m', m' < m ∧ W (i + 1) m' σ' H') ∧ ∀ x H', (Itr lo n).yld i H x H' → g x σ H' fun σ2 H2 => tb { D with nx := N, ct := N, bk := D.nx } σ2 H2) := by
  refine ⟨fun i m σ H => m = n - i ∧ i ≤ n ∧ Pv i σ H, ⟨n, by simp, Nat.zero_le _, h0⟩, ?_⟩
  rintro i m σ H ⟨rfl, hi, p⟩
  by_cases hlt : i < n
  · refine .inr ⟨hlt, Pv (i + 1), fun σ' H' p' => ⟨n - (i + 1), by omega, rfl, hlt, p'⟩, fun x H' y => ?_⟩
    obtain ⟨e, y⟩ := y
    subst e y
    exact hs i σ _ hlt p
  · have e : i = n := by omega
    subst e
    exact .inl ⟨Nat.le_refl _, hd σ H p⟩
theorem while_by {c : TT} {tb : TS} {D : Ends} {σ : St} {H : Hp} (Pv : St → Hp → Prop) (μ : St → Hp → Nat) (h0 : Pv σ H)
    (hs : ∀ σ H, Pv σ H → c σ H fun b H1 => if b = true then tb { D with nx := fun σ' H' => Pv σ' H' ∧ μ σ' H' < μ σ H, ct := fun σ' H' => Pv σ' H' ∧ μ σ' H' < μ σ H, bk := D.nx } σ H1 else D.nx σ H1)
    (mono : ∀ σ H Q Q', (∀ b H1, Q b H1 → Q' b H1) → c σ H Q → c σ H Q') : tWhile c tb D σ H := by
  refine ⟨fun m σ H => m = μ σ H ∧ Pv σ H, ⟨_, rfl, h0⟩, ?_⟩
  rintro m σ H ⟨rfl, p⟩
  refine mono σ H _ _ (fun b H1 q => ?_) (hs σ H p)
  cases b with
  | true => exact ⟨_, fun σ' H' ⟨p', l⟩ => ⟨_, l, rfl, p'⟩, q⟩
  | false => exact q
end L2
namespace L2
open PySem PySem.Spec PyProof.Rows
abbrev R2 := V → V → Hp → VK → Prop
def OpR (X : Cx) (f : Value → Value → Sem Value) (r : R2) : Prop :=
  ∀ (pins : List (Addr × Obj)) (s : Shared) (σ : St) (H : Hp) (x y : V) (v u : Value) (Q : VK), Inv X pins σ H s → RelV x v → RelV y u → r x y H Q →
    wpAny (model X.prog X.w) X.A (f v u) (EP X pins σ Q) X.xe s
def UnR (X : Cx) (f : Value → Sem Value) (r : V → Hp → VK → Prop) : Prop :=
  ∀ (pins : List (Addr × Obj)) (s : Shared) (σ : St) (H : Hp) (x : V) (v : Value) (Q : VK), Inv X pins σ H s → RelV x v → r x H Q →
    wpAny (model X.prog X.w) X.A (f v) (EP X pins σ Q) X.xe s
def CallR (X : Cx) (f : Value) (r : List V → Hp → VK → Prop) : Prop :=
  ∀ (pins : List (Addr × Obj)) (s : Shared) (σ : St) (H : Hp) (xs : List V) (us : List Value) (Q : VK), Inv X pins σ H s → Vals xs us → r xs H Q →
    wpAny (model X.prog X.w) X.A (call f us) (EP X pins σ Q) X.xe s
def tOp (r : R2) (ta tb : TE) : TE := fun σ H Q => ta σ H fun x H1 => tb σ H1 fun y H2 => r x y H2 Q
def tUn (r : V → Hp → VK → Prop) (ta : TE) : TE := fun σ H Q => ta σ H fun x H1 => r x H1 Q
def rI (C : Int → Int → Prop) (g : Int → Int → V) : R2 := fun x y H Q => ∃ i j, x = .int i ∧ y = .int j ∧ C i j ∧ Q (g i j) H
def rI0 (g : Int → Int → V) : R2 := fun x y H Q => ∃ i j, x = .int i ∧ y = .int j ∧ Q (g i j) H
def rU (g : Int → V) : V → Hp → VK → Prop := fun x H Q => ∃ i, x = .int i ∧ Q (g i) H
section
variable {X : Cx} {a b c : Expr} {ta tb tc : TE} {pos : Pos}
theorem binT (ha : PE X a ta) (hb : PE X b tb) {pins : List (Addr × Obj)} {s : Shared} {σ : St} {H : Hp} {R : V → V → Hp → Prop} (I : Inv X pins σ H s)
    (h : ta σ H fun x H1 => tb σ H1 fun y H2 => R x y H2) {Q : Value → Shared → Prop} {f : Value → Value → Sem Value}
    (hf : ∀ v u s2 x y H2, Inv X pins σ H2 s2 → RelV x v → RelV y u → R x y H2 → wpAny (model X.prog X.w) X.A (f v u) Q X.xe s2) :
    wpAny (model X.prog X.w) X.A (eval a X.env) (fun v s₁ => wpAny (model X.prog X.w) X.A (eval b X.env) (fun u s₂ => wpAny (model X.prog X.w) X.A (f v u) Q X.xe s₂) X.xe s₁) X.xe s := by
  refine thn (ha pins s σ H _ I h) fun v s1 ⟨x, H1, I1, r1, q1⟩ => ?_
  refine thn (hb pins s1 σ H1 _ I1 q1) fun u s2 ⟨y, H2, I2, r2, q2⟩ => ?_
  exact hf v u s2 x y H2 I2 r1 r2 q2
theorem pe_op {op : Operator} {r : R2} (ho : OpR X (binaryOp op) r) (ha : PE X a ta) (hb : PE X b tb) : PE X (.BinOp a op b pos) (tOp r ta tb) := by
  intro pins s σ H Q I h
  exact wpAny_BinOp (binT ha hb I h fun v u s2 x y H2 I2 rx ry q => ho pins s2 σ H2 x y v u Q I2 rx ry q)
theorem pe_un {op : UnaryOp} {r : V → Hp → VK → Prop} (ho : UnR X (unaryOp op) r) (ha : PE X a ta) : PE X (.UnaryOp op a pos) (tUn r ta) := by
  intro pins s σ H Q I h
  exact UnaryOp_ (thn (ha pins s σ H _ I h) fun v s1 ⟨x, H1, I1, r1, q1⟩ => ho pins s1 σ H1 x v Q I1 r1 q1)
theorem opI {f : Value → Value → Sem Value} {C : Int → Int → Prop} {g : Int → Int → Int}
    (rule : ∀ (i j : Int) (t u : Tok) (s : Shared) (Q : Value → Shared → Prop) (E : Value → Shared → Prop), C i j → Q (.int (g i j) s.toks) { s with toks := s.toks + 1 } → wpAny (model X.prog X.w) X.A (f (.int i t) (.int j u)) Q E s) :
    OpR X f (rI C fun i j => .int (g i j)) := by
  intro pins s σ H x y v u Q I rx ry h
  obtain ⟨i, j, rfl, rfl, hc, q⟩ := h
  obtain ⟨t, rfl⟩ := rx
  obtain ⟨t', rfl⟩ := ry
  exact rule i j t t' s _ _ hc ⟨.int (g i j), H, I.tok _, ⟨_, rfl⟩, q⟩
theorem opI0 {f : Value → Value → Sem Value} {g : Int → Int → Int}
    (rule : ∀ (i j : Int) (t u : Tok) (s : Shared) (Q : Value → Shared → Prop) (E : Value → Shared → Prop), Q (.int (g i j) s.toks) { s with toks := s.toks + 1 } → wpAny (model X.prog X.w) X.A (f (.int i t) (.int j u)) Q E s) :
    OpR X f (rI0 fun i j => .int (g i j)) := by
  intro pins s σ H x y v u Q I rx ry h
  obtain ⟨i, j, rfl, rfl, q⟩ := h
  obtain ⟨t, rfl⟩ := rx
  obtain ⟨t', rfl⟩ := ry
  exact rule i j t t' s _ _ ⟨.int (g i j), H, I.tok _, ⟨_, rfl⟩, q⟩
theorem opB0 {f : Value → Value → Sem Value} {g : Int → Int → Bool}
    (rule : ∀ (i j : Int) (t u : Tok) (s : Shared) (Q : Value → Shared → Prop) (E : Value → Shared → Prop), Q (.bool (g i j)) s → wpAny (model X.prog X.w) X.A (f (.int i t) (.int j u)) Q E s) :
    OpR X f (rI0 fun i j => .bl (g i j)) := by
  intro pins s σ H x y v u Q I rx ry h
  obtain ⟨i, j, rfl, rfl, q⟩ := h
  obtain ⟨t, rfl⟩ := rx
  obtain ⟨t', rfl⟩ := ry
  exact rule i j t t' s _ _ ⟨.bl (g i j), H, I, rfl, q⟩
def CDiv (i j : Int) : Prop := 0 < j ∧ j < 1073741824
def CPow (i j : Int) : Prop := 0 ≤ j ∧ j ≤ 1000000 ∧ i.natAbs < 2 ^ 64
def CMul (i j : Int) : Prop := (-(2 ^ 64) < i ∧ i < 2 ^ 64) ∨ (-(2 ^ 64) < j ∧ j < 2 ^ 64)
theorem CMul.ok {i j : Int} (h : CMul i j) : IntMulOk i j := by
  rcases h with ⟨h1, h2⟩ | ⟨h1, h2⟩
  · exact .of_left (intBits_le_64 h1 h2)
  · exact .of_right (intBits_le_64 h1 h2)
theorem op_add : OpR X (binaryOp .Add) (rI0 fun i j => .int (i + j)) := opI0 fun _ _ _ _ _ _ _ q => add_int q
theorem op_sub : OpR X (binaryOp .Sub) (rI0 fun i j => .int (i - j)) := opI0 fun _ _ _ _ _ _ _ q => sub_int q
theorem op_mul : OpR X (binaryOp .Mult) (rI CMul fun i j => .int (i * j)) := opI fun _ _ _ _ _ _ _ hc q => mul_int q hc.ok
theorem op_fdiv : OpR X (binaryOp .FloorDiv) (rI CDiv fun i j => .int (i / j)) := opI fun i j _ _ _ _ _ hc q => by
  have h1 : (0 : Int) < j := hc.1
  have h2 : j < 1073741824 := hc.2
  exact floordiv_int (by omega) (by rw [Int.fdiv_eq_ediv_of_nonneg i (by omega)]; exact q) (.inl (PyProof.noPylong_small (by omega)))
theorem op_mod : OpR X (binaryOp .Mod) (rI (fun _ j => 0 < j) fun i j => .int (i % j)) := opI fun i j _ _ _ _ _ hc q => by
  have h1 : (0 : Int) < j := hc
  exact mod_int' (by omega) (by rw [Int.fmod_eq_emod_of_nonneg i (by omega)]; exact q)
theorem op_pow : OpR X (binaryOp .Pow) (rI CPow fun i j => .int (i ^ j.toNat)) := opI fun _ _ _ _ _ _ _ hc q => pow_int_small hc.1 hc.2.1 hc.2.2 q
theorem unI {f : Value → Sem Value} {g : Int → Int}
    (rule : ∀ (i : Int) (t : Tok) (s : Shared) (Q : Value → Shared → Prop) (E : Value → Shared → Prop), Q (.int (g i) s.toks) { s with toks := s.toks + 1 } → wpAny (model X.prog X.w) X.A (f (.int i t)) Q E s) :
    UnR X f (rU fun i => .int (g i)) := by
  intro pins s σ H x v Q I rx h
  obtain ⟨i, rfl, q⟩ := h
  obtain ⟨t, rfl⟩ := rx
  exact rule i t s _ _ ⟨.int (g i), H, I.tok _, ⟨_, rfl⟩, q⟩
theorem un_neg : UnR X (unaryOp .USub) (rU fun i => .int (-i)) := unI fun _ _ _ _ _ q => neg_int q
end
def scal : V → V → Bool
  | .non, .non => true | .non, .int _ => true | .int _, .non => true | .non, .bl _ => true | .bl _, .non => true | .non, .str _ => true | .str _, .non => true
  | .int _, .int _ => true | .bl _, .bl _ => true | .str _, .str _ => true | .byt _, .byt _ => true
  | .int _, .str _ => true | .str _, .int _ => true | .bl _, .str _ => true | .str _, .bl _ => true
  | _, _ => false
def rEq : R2 := fun x y H Q => scal x y = true ∧ Q (.bl (decide (x = y))) H
def rNe : R2 := fun x y H Q => scal x y = true ∧ Q (.bl (!decide (x = y))) H
theorem dec_int {i j : Int} : decide (V.int i = V.int j) = (i == j) := by
  rw [Bool.eq_iff_iff]
  simp
theorem dec_bl {i j : Bool} : decide (V.bl i = V.bl j) = (i == j) := by
  rw [Bool.eq_iff_iff]
  simp
theorem dec_str {i j : Str} : decide (V.str i = V.str j) = (i == j) := by
  rw [Bool.eq_iff_iff]
  simp
theorem dec_byt {i j : Array UInt8} : decide (V.byt i = V.byt j) = (i.toList == j.toList) := by
  rw [Bool.eq_iff_iff]
  cases i
  cases j
  simp
section
variable {X : Cx} {a b c : Expr} {ta tb tc : TE} {pos : Pos}
theorem fin_bl {pins : List (Addr × Obj)} {σ : St} {H : Hp} {s : Shared} {Q : VK} {k k' : Bool} (I : Inv X pins σ H s) (q : Q (.bl k) H) (e : k = k') : EP X pins σ Q (.bool k') s := by
  subst e
  exact ⟨.bl k, H, I, rfl, q⟩
theorem op_eq : OpR X (compareOp .Eq) rEq := by
  intro pins s σ H x y v u Q I rx ry h
  obtain ⟨hs, q⟩ := h
  cases x with
  | non =>
    cases rx
    cases y with
    | non => cases ry; exact PySem.EqNone.eq_none_none (fin_bl I q (by simp))
    | bl j => cases ry; exact PySem.EqNone.eq_none_bool (fin_bl I q (by simp))
    | int j => obtain ⟨t', rfl⟩ := ry; exact PySem.EqNone.eq_none_int (fin_bl I q (by simp))
    | str j => obtain ⟨t', rfl⟩ := ry; exact PySem.EqNone.eq_none_str (fin_bl I q (by simp))
    | _ => exact absurd (show false = true from hs) Bool.false_ne_true
  | bl i =>
    cases rx
    cases y with
    | non => cases ry; exact PySem.EqNone.eq_bool_none (fin_bl I q (by simp))
    | bl j => cases ry; exact eq_bool (fin_bl I q dec_bl)
    | str j => obtain ⟨t', rfl⟩ := ry; exact PySem.EqMixed.eq_bool_str (fin_bl I q (by simp))
    | _ => exact absurd (show false = true from hs) Bool.false_ne_true
  | int i =>
    obtain ⟨t, rfl⟩ := rx
    cases y with
    | non => cases ry; exact PySem.EqNone.eq_int_none (fin_bl I q (by simp))
    | int j => obtain ⟨t', rfl⟩ := ry; exact eq_int (fin_bl I q dec_int)
    | str j => obtain ⟨t', rfl⟩ := ry; exact PySem.EqMixed.eq_int_str (fin_bl I q (by simp))
    | _ => exact absurd (show false = true from hs) Bool.false_ne_true
  | str i =>
    obtain ⟨t, rfl⟩ := rx
    cases y with
    | non => cases ry; exact PySem.EqNone.eq_str_none (fin_bl I q (by simp))
    | bl j => cases ry; exact PySem.EqMixed.eq_str_bool (fin_bl I q (by simp))
    | int j => obtain ⟨t', rfl⟩ := ry; exact PySem.EqMixed.eq_str_int (fin_bl I q (by simp))
    | str j => obtain ⟨t', rfl⟩ := ry; exact eq_str (fin_bl I q dec_str)
    | _ => exact absurd (show false = true from hs) Bool.false_ne_true
  | byt i =>
    obtain ⟨t, rfl⟩ := rx
    cases y with
    | byt j => obtain ⟨t', rfl⟩ := ry; exact PySem.W.eq_bytes (fin_bl I q dec_byt)
    | _ => exact absurd (show false = true from hs) Bool.false_ne_true
  | _ => cases y <;> exact absurd (show false = true from hs) Bool.false_ne_true
theorem op_ne : OpR X (compareOp .NotEq) rNe := by
  intro pins s σ H x y v u Q I rx ry h
  obtain ⟨hs, q⟩ := h
  cases x with
  | non =>
    cases rx
    cases y with
    | non => cases ry; exact PySem.EqNone.ne_none_none (fin_bl I q (by simp))
    | bl j => cases ry; exact PySem.EqNone.ne_none_bool (fin_bl I q (by simp))
    | int j => obtain ⟨t', rfl⟩ := ry; exact PySem.EqNone.ne_none_int (fin_bl I q (by simp))
    | str j => obtain ⟨t', rfl⟩ := ry; exact PySem.EqNone.ne_none_str (fin_bl I q (by simp))
    | _ => exact absurd (show false = true from hs) Bool.false_ne_true
  | bl i =>
    cases rx
    cases y with
    | non => cases ry; exact PySem.EqNone.ne_bool_none (fin_bl I q (by simp))
    | bl j => cases ry; exact ne_bool (fin_bl I q (congrArg not dec_bl))
    | str j => obtain ⟨t', rfl⟩ := ry; exact PySem.EqMixed.ne_bool_str (fin_bl I q (by simp))
    | _ => exact absurd (show false = true from hs) Bool.false_ne_true
  | int i =>
    obtain ⟨t, rfl⟩ := rx
    cases y with
    | non => cases ry; exact PySem.EqNone.ne_int_none (fin_bl I q (by simp))
    | int j => obtain ⟨t', rfl⟩ := ry; exact ne_int (fin_bl I q (congrArg not dec_int))
    | str j => obtain ⟨t', rfl⟩ := ry; exact PySem.EqMixed.ne_int_str (fin_bl I q (by simp))
    | _ => exact absurd (show false = true from hs) Bool.false_ne_true
  | str i =>
    obtain ⟨t, rfl⟩ := rx
    cases y with
    | non => cases ry; exact PySem.EqNone.ne_str_none (fin_bl I q (by simp))
    | bl j => cases ry; exact PySem.EqMixed.ne_str_bool (fin_bl I q (by simp))
    | int j => obtain ⟨t', rfl⟩ := ry; exact PySem.EqMixed.ne_str_int (fin_bl I q (by simp))
    | str j => obtain ⟨t', rfl⟩ := ry; exact ne_str (fin_bl I q (congrArg not dec_str))
    | _ => exact absurd (show false = true from hs) Bool.false_ne_true
  | byt i =>
    obtain ⟨t, rfl⟩ := rx
    cases y with
    | byt j => obtain ⟨t', rfl⟩ := ry; exact PySem.W.ne_bytes (fin_bl I q (congrArg not dec_byt))
    | _ => exact absurd (show false = true from hs) Bool.false_ne_true
  | _ => cases y <;> exact absurd (show false = true from hs) Bool.false_ne_true
theorem op_lt : OpR X (compareOp .Lt) (rI0 fun i j => .bl (decide (i < j))) := opB0 fun _ _ _ _ _ _ _ q => lt_int q
theorem op_gt : OpR X (compareOp .Gt) (rI0 fun i j => .bl (decide (j < i))) := opB0 fun _ _ _ _ _ _ _ q => gt_int q
theorem OpR.or {f : Value → Value → Sem Value} {r r' : R2} (h : OpR X f r) (h' : OpR X f r') : OpR X f (fun x y H Q => r x y H Q ∨ r' x y H Q) := by
  intro pins s σ H x y v u Q I rx ry q
  rcases q with q | q
  · exact h pins s σ H x y v u Q I rx ry q
  · exact h' pins s σ H x y v u Q I rx ry q
theorem nomark (b : Expr) {op : CmpOp} (h : op ≠ .In := by decide) (h2 : op ≠ .NotIn := by decide) : behindInMarks op b = false := by
  have e1 : (op == CmpOp.In) = false := by cases op <;> first | rfl | exact absurd rfl h
  have e2 : (op == CmpOp.NotIn) = false := by cases op <;> first | rfl | exact absurd rfl h2
  cases b <;> simp [behindInMarks, e1, e2]
theorem pe_cmpR {op : CmpOp} {r : R2} (ho : OpR X (compareOp op) r) (ha : PE X a ta) (hb : PE X b tb) (hm : behindInMarks op b = false) : PE X (.Compare a [op] [b] pos) (tOp r ta tb) := by
  intro pins s σ H Q I h
  exact wpAny_Compare1 (binT ha hb I h fun v u s2 x y H2 I2 rx ry q => ho pins s2 σ H2 x y v u Q I2 rx ry q) hm
def tTest (t : TE) : TT := fun σ H Q => t σ H fun x H' => ∃ k, x = .bl k ∧ Q k H'
theorem pt_cmpR {op : CmpOp} {r : R2} (ho : OpR X (compareOp op) r) (ha : PE X a ta) (hb : PE X b tb) (hm : behindInMarks op b = false) : PT X (.Compare a [op] [b] pos) (tTest (tOp r ta tb)) := by
  intro pins s σ H Q I h
  refine wpAny_isTrue_Compare1 (thn (ha pins s σ H _ I h) fun v s1 ⟨x, H1, I1, r1, q1⟩ => thn (hb pins s1 σ H1 _ I1 q1) fun u s2 ⟨y, H2, I2, r2, q2⟩ =>
    thn (ho pins s2 σ H2 x y v u _ I2 r1 r2 q2) fun c s3 ⟨z, H3, I3, r3, k, e, q3⟩ => ?_) hm
  subst e
  cases r3
  exact wpAny_truthy_bool ⟨H3, I3, q3⟩
theorem line63 : (sizeLine : Nat) < 2 ^ 63 := by rw [sizeLine_eq]; decide
theorem op_add_str : OpR X (binaryOp .Add) (fun x y H Q => ∃ i j, x = .str i ∧ y = .str j ∧ i.length + j.length ≤ sizeLine ∧ Q (.str (i ++ j)) H) := by
  intro pins s σ H x y v u Q I rx ry h
  obtain ⟨i, j, rfl, rfl, hz, q⟩ := h
  obtain ⟨t, rfl⟩ := rx
  obtain ⟨t', rfl⟩ := ry
  exact add_str (fun t' tk => ⟨.str (i ++ j), H, I.tok _, ⟨_, rfl⟩, q⟩) hz
theorem vals1 {x : V} {us : List Value} (r : Vals [x] us) : ∃ u, us = [u] ∧ RelV x u := by
  cases r with
  | cons r1 r2 => cases r2; exact ⟨_, rfl, r1⟩
theorem vals2 {x y : V} {us : List Value} (r : Vals [x, y] us) : ∃ u w', us = [u, w'] ∧ RelV x u ∧ RelV y w' := by
  cases r with
  | cons r1 r2 =>
    cases r2 with
    | cons r3 r4 => cases r4; exact ⟨_, _, rfl, r1, r3⟩
theorem call_min2 (hc : X.calm = true) : CallR X (.builtin "min") (fun xs H Q => ∃ i j, xs = [.int i, .int j] ∧ Q (.int (if j < i then j else i)) H) := by
  intro pins s σ H xs us Q I r h
  obtain ⟨i, j, rfl, q⟩ := h
  obtain ⟨u, w', rfl, ⟨t, rfl⟩, ⟨t', rfl⟩⟩ := vals2 r
  refine min_two_ints (I.ok.hd hc) fun h' tk k => ⟨_, H, I.kept k, ?_, q⟩
  by_cases hj : j < i
  · rw [if_pos hj, if_pos hj]; exact ⟨_, rfl⟩
  · rw [if_neg hj, if_neg hj]; exact ⟨_, rfl⟩
theorem call_int1 : CallR X (.type "int") (fun xs H Q => (∃ i, xs = [.int i] ∧ Q (.int i) H) ∨ ∃ k, xs = [.bl k] ∧ Q (.int (if k then 1 else 0)) H) := by
  intro pins s σ H xs us Q I r h
  rcases h with ⟨i, rfl, q⟩ | ⟨k, rfl, q⟩
  · obtain ⟨u, rfl, t, rfl⟩ := vals1 r
    exact call_int_int ⟨.int i, H, I, ⟨_, rfl⟩, q⟩
  · obtain ⟨u, rfl, r1⟩ := vals1 r
    cases r1
    exact call_int_bool ⟨.int (if k then 1 else 0), H, I.tok _, ⟨_, rfl⟩, q⟩
end
end L2
namespace L2
open PySem PySem.Spec PyProof.Rows
structure ObjM (h : Heap) (x dx C : Addr) (mA : Str → Option Value) : Prop where
  obj : h.get? x = some (PySem.W.instObj C dx)
  ns : h.Ns1 dx mA
  ne : dx ≠ x
theorem lookIn_ns {h : Heap} {dx : Addr} {mA : Str → Option Value} (n : h.Ns1 dx mA) : ∃ od, h.get? dx = some od ∧ ∀ name, PySem.W.lookIn name od = some (mA name) := by
  obtain ⟨o, es, ep, ho, hd, hk, _, hm⟩ := n
  refine ⟨o, ho, fun name => ?_⟩
  have e := hm name
  unfold nsFind findBy at e
  rw [← Array.find?_toList] at e
  unfold PySem.W.lookIn
  rw [hd]
  dsimp only
  split
  · rename_i y q
    rw [q] at e
    exact congrArg some e
  · rename_i q
    rw [q] at e
    have a : es.toList.any (·.refKey) = false := by
      rw [List.any_eq_false]
      intro y hy
      obtain ⟨z, t, hkey⟩ := hk y (Array.mem_toList_iff.mp hy)
      simp [DictEntry.refKey, hkey]
    have a' : ¬ es.toList.any (·.refKey) = true := by rw [a]; exact Bool.false_ne_true
    rw [if_neg a']
    exact congrArg some e
theorem ObjM.look {h : Heap} {x dx C : Addr} {mA : Str → Option Value} (I : ObjM h x dx C mA) : ∃ od, PySem.W.InstAt h x (PySem.W.instObj C dx) C (some od) ∧ ∀ name, PySem.W.lookIn name od = some (mA name) :=
  let ⟨od, ho, hl⟩ := lookIn_ns I.ns
  ⟨od, ⟨I.obj, rfl, rfl, ho⟩, hl⟩
section
variable {prog : Program} {w : World} {A : Around} {E : Value → Shared → Prop} {s : Shared} {K : PySem.W.Frag} {x dx C f : Addr} {mA : Str → Option Value} {name : Str} {v : Value}
end
theorem RelO.some_of {v : V} {o : Option Value} (r : RelO (some v) o) : ∃ u, o = some u ∧ RelV v u := by
  cases o with
  | none => exact (show False from r).elim
  | some u => exact ⟨u, rfl, r⟩
section
variable {P : Program} {w : World} {H H' : Hp} {h h' : Heap} {a C dx : Addr} {fs fs' : List (Str × V)}
theorem ins_get (hok : HOk P w H h) (e : H a = some (.ins C dx fs)) : ∃ mA, ObjM h a dx C mA ∧ (∀ f, RelO (fs.lookup f) (mA f)) ∧ PySem.Within mA (fs.map (·.1)) ∧ fs.length ≤ 1000 ∧ H dx = some (.own a) := by
  obtain ⟨d, z, ne, ob, mA, n, r, q⟩ := (show ObjOk P w H h a (.ins C dx fs) from hok a _ e)
  exact ⟨mA, ⟨ob, n, ne⟩, r, q, z, d⟩
end
structure Cls (K : PySem.W.Frag) (C : Addr) : Prop where
  pg : PySem.W.plainGet K C Str.empty = true
  hd : PySem.W.hasDictIn K C = true
  po : PySem.W.plainOver K C = true
  sa : PySem.W.findIn K (.ref C) "__setattr__" = some (some (.builtin "object.__setattr__"))
theorem Cls.get {K : PySem.W.Frag} {C : Addr} (c : Cls K C) (f : Str) : PySem.W.plainGet K C f = true := c.pg
section
variable {X : Cx} {pins : List (Addr × Obj)} {σ : St} {H : Hp} {s : Shared} {a C dx : Addr} {fs : List (Str × V)} {f : Str} {v : V} {A : Around} {E : Value → Shared → Prop}
theorem Inv.made (I : Inv X pins σ H s) : Inv X pins σ (upd (upd H s.heap.objs.size (.own (s.heap.objs.size + 1))) (s.heap.objs.size + 1) (.ins C s.heap.objs.size []))
    { s with heap := (s.heap.push PySem.W.emptyDict).push (PySem.W.instObj C s.heap.objs.size) } := by
  have e1 : (s.heap.push PySem.W.emptyDict).get? s.heap.objs.size = some PySem.W.emptyDict := Heap.get?_push_size s.heap rfl
  have e2 : ((s.heap.push PySem.W.emptyDict).push (PySem.W.instObj C s.heap.objs.size)).get? (s.heap.objs.size + 1) = some (PySem.W.instObj C s.heap.objs.size) := by
    have := Heap.get?_push_size (s.heap.push PySem.W.emptyDict) (o := PySem.W.instObj C s.heap.objs.size) rfl
    rwa [Heap.size_push] at this
  have e3 : (s.heap.push PySem.W.emptyDict).Ns s.heap.objs.size (fun _ => none) := ⟨PySem.W.emptyDict, #[], _, e1, rfl, (fun e he => absurd he (by simp)), fun _ => rfl⟩
  have I1 := I.laid (a := s.heap.objs.size) (o := .own (s.heap.objs.size + 1)) (h' := s.heap.push PySem.W.emptyDict) (t' := s.toks) (fun b u q => Heap.get?_push_of_some _ q) (Nat.le_refl _) ⟨_, e1⟩
  refine I1.laid (a := s.heap.objs.size + 1) (o := .ins C s.heap.objs.size []) (t' := s.toks) (fun b u q => Heap.get?_push_of_some _ q) (Nat.le_of_eq (Heap.size_push _ _)) ?_
  have ne : s.heap.objs.size ≠ s.heap.objs.size + 1 := Nat.ne_of_lt (Nat.lt_succ_self _)
  refine ⟨by rw [upd_ne ne, upd_same], Nat.zero_le _, ne, e2, fun _ => none, (Heap.Ns1.of_empty e3).at fun o q => Heap.get?_push_of_some _ q, fun _ => True.intro, fun y hy => absurd rfl hy⟩
end
section
variable {X : Cx} {o e value : Expr} {f : Str} {pos pos' tpos : Pos} {ta tv : TE}
end
section
variable {X : Cx} {pins : List (Addr × Obj)} {σ : St} {H : Hp} {s : Shared} {A : Around} {E : Value → Shared → Prop} {Q : Value → Shared → Prop} {c : Value} {b : Bool}
inductive TyOf (K : PySem.W.Frag) (H : Hp) : V → Value → Prop where
  | non : TyOf K H .non (.type "NoneType")
  | bl (x : Bool) : TyOf K H (.bl x) (.type "bool")
  | int (i : Int) : TyOf K H (.int i) (.type "int")
  | str (x : Str) : TyOf K H (.str x) (.type "str")
  | flt (x : UInt64) : TyOf K H (.flt x) (.type "float")
  | lst {a : Addr} {xs : List V} (e : H a = some (.lst xs)) : TyOf K H (.ref a) (.type "list")
  | frz {a : Addr} {o : Obj} {xs : List V} (e : H a = some (.frz o (.lst xs))) : TyOf K H (.ref a) (.type "list")
  | tup {a : Addr} {xs : List V} (e : H a = some (.tup xs)) : TyOf K H (.ref a) (.type "tuple")
  | dK {a : Addr} {kvs : List (Key × V)} (e : H a = some (.dK kvs)) : TyOf K H (.ref a) (.type "dict")
  | dT {a : Addr} {kvs : List (List Key × V)} (e : H a = some (.dT kvs)) : TyOf K H (.ref a) (.type "dict")
  | ins {a C dx : Addr} {fs : List (Str × V)} (e : H a = some (.ins C dx fs)) (cl : Cls K C) (ha : PySem.W.findIn K (.ref C) "__class__" = some (some (.builtin "object.__class__")))
      (hn : PySem.W.specialIn K (.builtin "object.__class__") "__get__" = some (some (.builtin "getset_descriptor.__get__"))) (htk : PySem.W.takesIn K (.builtin "object.__class__") = some true)
      (hm : PySem.W.mroIn K C (.type "object") = some true) : TyOf K H (.ref a) (.ref C)
theorem isinst_ok {x : V} {u t : Value} (I : Inv X pins σ H s) (rx : RelV x u) (ty : TyOf X.K H x t) (e : PySem.W.kitOne X.K t c = some b) (h : ∀ tk, Q (.bool b) { s with toks := tk }) :
    wpAny (model X.prog X.w) A (call (.builtin "isinstance") [u, c]) Q E s := by
  cases ty with
  | non => cases (show u = Value.none from rx); exact PySem.W.kia_one PySem.W.kitx_none I.kIn True.intro e (fun z => nomatch z) h
  | bl y => cases (show u = Value.bool y from rx); exact PySem.W.kia_one PySem.W.kitx_bool I.kIn True.intro e (fun z => nomatch z) h
  | int i => obtain ⟨t, q⟩ := (show ∃ t, u = Value.int i t from rx); cases q; exact PySem.W.kia_one PySem.W.kitx_int I.kIn True.intro e (fun z => nomatch z) h
  | str y => obtain ⟨t, q⟩ := (show ∃ t, u = Value.str y t from rx); cases q; exact PySem.W.kia_one PySem.W.kitx_str I.kIn True.intro e (fun z => nomatch z) h
  | flt y => obtain ⟨t, q⟩ := (show ∃ t, u = Value.float y t from rx); cases q; exact PySem.W.kia_one PySem.W.kitx_float I.kIn True.intro e (fun z => nomatch z) h
  | @lst a xs ea =>
    cases (show u = Value.ref a from rx)
    obtain ⟨_, _, n, _, h1⟩ := (show ObjOk X.prog X.w H s.heap a (.lst xs) from I.hok a _ ea)
    exact PySem.W.kia_one PySem.W.kitx_list I.kIn ⟨_, h1, rfl⟩ e (fun z => nomatch z) h
  | @frz a ob xs ea =>
    cases (show u = Value.ref a from rx)
    obtain ⟨_, _, _, n, _, h1⟩ := (show ObjOk X.prog X.w H s.heap a (.frz ob (.lst xs)) from I.hok a _ ea)
    exact PySem.W.kia_one PySem.W.kitx_list I.kIn ⟨_, h1, rfl⟩ e (fun z => nomatch z) h
  | @tup a xs ea =>
    cases (show u = Value.ref a from rx)
    obtain ⟨_, _, _, p⟩ := (show ObjOk X.prog X.w H s.heap a (.tup xs) from I.hok a _ ea)
    obtain ⟨o, h1, h2, _⟩ := p
    exact PySem.W.kia_one PySem.W.kitx_tuple I.kIn ⟨o, h1, h2⟩ e (fun z => nomatch z) h
  | @dK a kvs ea =>
    cases (show u = Value.ref a from rx)
    obtain ⟨_, _, vs, _, p⟩ := (show ObjOk X.prog X.w H s.heap a (.dK kvs) from I.hok a _ ea)
    obtain ⟨o, es, ep, h1, h2, _⟩ := p
    exact PySem.W.kia_one PySem.W.kitx_dict I.kIn ⟨o, h1, h2.1⟩ e (fun z => nomatch z) h
  | @dT a kvs ea =>
    cases (show u = Value.ref a from rx)
    obtain ⟨_, _, xs, _, o, es, ep, h1, h2, _⟩ := (show ObjOk X.prog X.w H s.heap a (.dT kvs) from I.hok a _ ea)
    exact PySem.W.kia_one PySem.W.kitx_dict I.kIn ⟨o, h1, h2.1⟩ e (fun z => nomatch z) h
  | @ins a C dx fs ea cl ha hn htk hm =>
    cases (show u = Value.ref a from rx)
    obtain ⟨mA, O, _⟩ := ins_get I.hok ea
    obtain ⟨od, J, _⟩ := O.look
    exact PySem.W.kia_one (PySem.W.kitx_own (cl.get _) cl.hd ha hn htk hm) I.kIn J e (fun z => nomatch z) h
end
end L2
namespace L2
open PySem PySem.Spec PyProof.Rows
structure Room (k : Nat) (A : Around) : Prop where
  hd : A.handled = none
  dp : A.depth + 3 * k + 5 < recursionLimit
  un : A.units + 16 * k + 200 < cLine
theorem Room.mono {j k : Nat} {A : Around} (r : Room k A) (h : j ≤ k) : Room j A := ⟨r.hd, by have := r.dp; omega, by have := r.un; omega⟩
theorem Room.deeper {k : Nat} {A : Around} (r : Room (k + 1) A) (env : Env) : Room k (A.deeper env) :=
  ⟨r.hd, by have := r.dp; show A.depth + 1 + 3 * k + 5 < _; omega, by have := r.un; show A.units + 3 + 16 * k + 200 < _; omega⟩
theorem Room.in1 {k : Nat} {A : Around} (r : Room (k + 1) A) : Room k A.in1 :=
  ⟨r.hd, by have := r.dp; show A.depth + 3 * k + 5 < _; omega, by have := r.un; show A.units + 1 + 16 * k + 200 < _; omega⟩
theorem Room.depth {k : Nat} {A : Around} (r : Room k A) : A.depth < recursionLimit := by have := r.dp; omega
theorem Room.units {k : Nat} {A : Around} (r : Room k A) : A.units + 64 < cLine := by have := r.un; omega
def tNil : TA := fun _ H Q => Q [] H
def tCons (ta : TE) (tr : TA) : TA := fun σ H Q => ta σ H fun x H1 => tr σ H1 fun xs H2 => Q (x :: xs) H2
section
variable {X : Cx} {e : Expr} {es : List Expr} {te : TE} {t : TA} {pos : Pos}
theorem pa_nil : PA X [] tNil := fun _ _ _ _ H Q I h => Calls.spliced_nil ⟨[], H, I, .nil, h⟩
theorem pa_cons (ha : PE X e te) (hr : PA X es t) (hs : starEach (e :: es) X.env = (false, eval e X.env) :: starEach es X.env := by rfl) : PA X (e :: es) (tCons te t) := by
  intro pos pins s σ H Q I h
  rw [hs]
  show wpAny _ _ (spliced ((false, eval e X.env) :: backTo pos (starEach es X.env))) _ _ s
  refine Calls.spliced_cons (thn (ha pins s σ H _ I h) fun u s1 ⟨x, H1, I1, r1, q1⟩ => ?_)
  exact thn (hr pos pins s1 σ H1 _ I1 q1) fun us s2 ⟨xs, H2, I2, r2, q2⟩ => ⟨x :: xs, H2, I2, .cons r1 r2, q2⟩
def tTup (t : TA) : TE := fun σ H Q => t σ H fun xs H1 => xs.length ≤ sizeLine ∧ ∀ p, H1 p = none → Q (.ref p) (upd H1 p (.tup xs))
def tLst (t : TA) : TE := fun σ H Q => t σ H fun xs H1 => xs.length ≤ sizeLine ∧ ∀ p, H1 p = none → Q (.ref p) (upd H1 p (.lst xs))
theorem pe_tup {x1} (h : PA X es t) : PE X (.Tuple es x1 pos) (tTup t) := by
  intro pins s σ H Q I hq
  refine wpAny_Tuple_spliced (thn (h pos pins s σ H _ I hq) fun us s1 ⟨xs, H1, I1, r, z, q⟩ => ⟨by rw [← r.length]; exact z, ?_⟩)
  have hf : H1 s1.heap.objs.size = none := I1.hok.fresh (Nat.le_refl _)
  refine ⟨.ref s1.heap.objs.size, upd H1 s1.heap.objs.size (.tup xs), I1.laid (t' := s1.toks) (fun b u e => Heap.get?_push_of_some _ e) (Nat.le_refl _) ?_, rfl, q _ hf⟩
  exact ⟨z, us, r, ⟨_, Heap.get?_push_size _ rfl, rfl, _, rfl, rfl⟩⟩
theorem pe_lst (h : PA X es t) : PE X (.List es pos) (tLst t) := by
  intro pins s σ H Q I hq
  refine wpAny_List_spliced (thn (h pos pins s σ H _ I hq) fun us s1 ⟨xs, H1, I1, r, z, q⟩ => ⟨by rw [← r.length]; exact z, ?_⟩)
  have hf : H1 s1.heap.objs.size = none := I1.hok.fresh (Nat.le_refl _)
  refine ⟨.ref s1.heap.objs.size, upd H1 s1.heap.objs.size (.lst xs), I1.laid (t' := s1.toks) (fun b u e => Heap.get?_push_of_some _ e) (Nat.le_refl _) ?_, rfl, q _ hf⟩
  exact ⟨z, us, 0, r, Heap.get?_push_size _ rfl⟩
end
abbrev Sp := List V → Hp → VK → XK → Prop
abbrev CXT := List Env → Hp → Shared → XK → Value → Shared → Prop
structure Env0 (P : Program) (w : World) (K : PySem.W.Frag) (mg : Str → Option Value) (base : Heap) (A : Around) (outer : List Env) (s : Shared) (H : Hp) : Prop where
  frames : A.frames = some outer
  mod : Mod K mg base
  bs : ∀ b o, base.get? b = some o → s.heap.get? b = some o ∧ H b = none
  bsz : base.objs.size ≤ s.heap.objs.size
  funs : s.heap.FunFrames base outer
  frf : ∀ b ∈ frs outer, H b = none
  hok : HOk P w H s.heap
  bare : AllBare s.gens
def CE (outer : List Env) (P : Program) (w : World) (H : Hp) (s : Shared) (Q : VK) (u : Value) (s' : Shared) : Prop :=
  ∃ v H', s'.os = s.os ∧ AllBare s'.gens ∧ Un (frs outer) [] H H' s.heap s'.heap ∧ HOk P w H' s'.heap ∧ RelV v u ∧ Q v H'
def CR (CX : CXT) (outer : List Env) (P : Program) (w : World) (H : Hp) (s : Shared) (Q : VK) (E : XK) (r : Result) (s' : Shared) : Prop :=
  match r with
  | .ok (.ret u) => CE outer P w H s Q u s'
  | .ok _ => False
  | .error e => CX outer H s E e s'
structure FnOk (P : Program) (w : World) (K : PySem.W.Frag) (mg : Str → Option Value) (base : Heap) (CX : CXT) (k : Nat) (f : Addr) (fd : FuncData) (ps : List Str) (sp : Sp) : Prop where
  len : ∀ vs H Q E, sp vs H Q E → vs.length = ps.length
  run : ∀ (A : Around) (outer : List Env) (s : Shared) (H : Hp) (args : Args) (us : List Value) (vs : List V) (Q : VK) (E : XK), Room k A → Env0 P w K mg base A outer s H → BindsTo s fd args (ps.zip us) → Vals vs us → sp vs H Q E →
    codeAny (model P w) A (.call (.ref f) args) (CR CX outer P w H s Q E) s
theorem FnOk.mono {P : Program} {w : World} {K : PySem.W.Frag} {mg : Str → Option Value} {base : Heap} {CX : CXT} {j k : Nat} {f : Addr} {fd : FuncData} {ps : List Str} {sp : Sp} (F : FnOk P w K mg base CX j f fd ps sp) (h : j ≤ k) :
    FnOk P w K mg base CX k f fd ps sp := ⟨F.len, fun A outer s H args us vs Q E hr => F.run A outer s H args us vs Q E (hr.mono h)⟩
theorem FnOk.imp {P : Program} {w : World} {K : PySem.W.Frag} {mg : Str → Option Value} {base : Heap} {CX : CXT} {k : Nat} {f : Addr} {fd : FuncData} {ps : List Str} {sp sp' : Sp} (F : FnOk P w K mg base CX k f fd ps sp)
    (h : ∀ vs H Q E, sp' vs H Q E → sp vs H Q E) : FnOk P w K mg base CX k f fd ps sp' :=
  ⟨fun vs H Q E q => F.len vs H Q E (h _ _ _ _ q), fun A outer s H args us vs Q E hr he hb hv hs => F.run A outer s H args us vs Q E hr he hb hv (h _ _ _ _ hs)⟩
theorem Env0.in1 {P : Program} {w : World} {K : PySem.W.Frag} {mg : Str → Option Value} {base : Heap} {A : Around} {outer : List Env} {s : Shared} {H : Hp} (e : Env0 P w K mg base A outer s H) :
    Env0 P w K mg base A.in1 outer s H := ⟨e.frames, e.mod, e.bs, e.bsz, e.funs, e.frf, e.hok, e.bare⟩
section
variable {X : Cx} {pins : List (Addr × Obj)} {σ : St} {H : Hp} {s s' : Shared}
theorem Inv.env0 (I : Inv X pins σ H s) : Env0 X.prog X.w X.K X.mg X.base X.A X.stack s H :=
  ⟨I.ok.frames, I.ok.mod, I.bs, Nat.le_trans I.ok.bsz I.sz, I.stack, I.stkFree, I.hok, I.bare⟩
theorem Inv.after {Q : VK} {u : Value} (I : Inv X pins σ H s) (h : CE X.stack X.prog X.w H s Q u s') : EP X pins σ Q u s' := by
  obtain ⟨v, H', os, bare, un, hok, r, q⟩ := h
  obtain ⟨hh, g, d, t, os'⟩ := s'
  obtain rfl : os' = s.os := os
  exact ⟨v, H', I.call (h' := hh) (g' := g) (d' := d) (t' := t) (ch := []) un hok bare (fun b z => absurd z (by simp)), r, q⟩
end
def tCall (sp : Sp) (dvs : List V) (E : XK) (t : TA) : TE := fun σ H Q => t σ H fun vs H1 => sp (vs ++ dvs) H1 Q E
def Binds (K : PySem.W.Frag) (fd : FuncData) (ps : List Str) (ds : List Value) : Prop :=
  ∀ (s : Shared) (us : List Value), K.In s.heap → (us ++ ds).length = ps.length → BindsTo s fd ⟨us, []⟩ (ps.zip (us ++ ds))
theorem Binds.all {K : PySem.W.Frag} {fd : FuncData} {ps : List Str} (h : ∀ us : List Value, us.length = ps.length → bindArgs fd ⟨us, []⟩ = pure (ps.zip us)) : Binds K fd ps [] := fun s us _ hl => by
  rw [List.append_nil] at hl ⊢
  exact .of_eq (h us hl)
def Passes (CX : CXT) (X : Cx) (E : XK) : Prop := ∀ (pins : List (Addr × Obj)) (σ : St) (H : Hp) (s : Shared) (e : Value) (s' : Shared), Inv X pins σ H s → CX X.stack H s E e s' → X.xe e s'
section
variable {X : Cx} {CX : CXT} {k : Nat} {f C : Addr} {fd : FuncData} {ps : List Str} {sp : Sp} {dvs : List V} {ds : List Value} {E : XK} {x m : Str} {p pos apos : Pos} {e o : Expr} {es : List Expr} {ta : TE} {t : TA}
theorem run_fn {pins : List (Addr × Obj)} {σ : St} {H : Hp} {s : Shared} {Q : VK} {us : List Value} {vs : List V} (F : FnOk X.prog X.w X.K X.mg X.base CX k f fd ps sp) (hr : Room k X.A) (hb : Binds X.K fd ps ds) (hd : Vals dvs ds) (hx : Passes CX X E)
    (I : Inv X pins σ H s) (r : Vals vs us) (h : sp (vs ++ dvs) H Q E) : wpAny (model X.prog X.w) X.A (call (.ref f) us) (EP X pins σ Q) X.xe s := by
  have r2 : Vals (vs ++ dvs) (us ++ ds) := r.append hd
  have hl : (us ++ ds).length = ps.length := by rw [← r2.length]; exact F.len _ _ _ _ h
  refine wpAny_call (codeAny_mono (F.run X.A X.stack s H ⟨us, []⟩ (us ++ ds) (vs ++ dvs) Q E hr I.env0 (hb s us I.kIn hl) r2 h) fun r s' hq => ?_)
  cases r with
  | error e => exact hx pins σ H s e s' I hq
  | ok fl =>
    cases fl with
    | ret u => exact I.after hq
    | next => exact False.elim hq
    | brk => exact False.elim hq
    | cont => exact False.elim hq
theorem pe_call (F : FnOk X.prog X.w X.K X.mg X.base CX k f fd ps sp) (hr : Room k X.A) (hg : Gl X x) (hm : X.mg x = some (.ref f)) (hk : PySem.W.keepIn X.K (.ref f) = true) (hb : Binds X.K fd ps ds) (hd : Vals dvs ds) (hx : Passes CX X E)
    (ha : PA X (e :: es) t) (hdb : (x == ("__debug__" : Str)) = false := by decide) (he : starEach (e :: es) X.env = (false, eval e X.env) :: starEach es X.env := by rfl) (hpl : (backTo pos (starEach es X.env)).any (·.1) = false := by rfl) :
    PE X (.Call (.Name x p) (e :: es) [] pos) (tCall sp dvs E t) := by
  intro pins s σ H Q I h
  refine wpAny_Call_Name_kw (ld_glob I hg hm ?_ hdb)
  refine PySem.W.callWith_K (h₀ := X.base) I.ok.mod.kin hk (thn (ha pos pins s σ H _ I h) fun us s1 ⟨vs, H1, I1, r, q⟩ => ⟨I1.kIn, ?_⟩) he hpl
  exact run_fn F hr hb hd hx I1 r q
end
section
variable {X : Cx} {CX : CXT} {k : Nat} {f C : Addr} {fd : FuncData} {ps ks : List Str} {sp : Sp} {E : XK} {x m : Str} {p pos apos kpos : Pos} {e o : Expr} {es : List Expr} {kws : List Keyword} {te ta : TE} {t tk : TA} {nm : Option Str}
variable {g : List Value → List Value → List Value} {gV : List V → List V → List V}
end
structure FnScope (N P : List Str) (sc : Scope) : Prop where
  kind : sc.kind = .function
  co : sc.isCoroutine = false
  gen : sc.isGenerator = false
  nd : N.Nodup
  pre : N.take P.length = P
  par : ∀ x ∈ P, sc.names.lookup x = some .local ∨ sc.names.lookup x = some .cell
  nofree : ∀ y ∈ sc.names, y.2 ≠ .free
theorem bindL_out {kindOf : Str → Option NameKind} {x : Str} : ∀ {binds : List (Str × Value)} {m : Str → Option Value}, (∀ v, (x, v) ∉ binds) → bindL kindOf binds m x = m x
  | [], _, _ => rfl
  | (n, v) :: r, m, h => by
    unfold bindL
    rw [bindL_out fun w hw => h w (List.mem_cons_of_mem _ hw)]
    split
    · have : x ≠ n := by rintro rfl; exact h v List.mem_cons_self
      simp [this]
    · rfl
theorem bindC_out {kindOf : Str → Option NameKind} {x : Str} : ∀ {binds : List (Str × Value)} {m : Str → Option Value}, (∀ v, (x, v) ∉ binds) → bindC kindOf binds m x = m x
  | [], _, _ => rfl
  | (n, v) :: r, m, h => by
    unfold bindC
    rw [bindC_out fun w hw => h w (List.mem_cons_of_mem _ hw)]
    split
    · rfl
    · have : x ≠ n := by rintro rfl; exact h v List.mem_cons_self
      simp [this]
theorem bindL_get {kindOf : Str → Option NameKind} {x : Str} {v : Value} : ∀ {P : List Str} {vs : List Value} {i : Nat} {m : Str → Option Value}, P.Nodup → P[i]? = some x → vs[i]? = some v → kindOf x = some .local →
    bindL kindOf (P.zip vs) m x = some v
  | [], _, _, _, _, h, _, _ => by simp at h
  | _ :: _, [], _, _, _, _, h, _ => by simp at h
  | p :: P, w :: vs, 0, m, nd, h1, h2, hk => by
    simp at h1 h2; subst h1; subst h2
    show bindL kindOf ((p, w) :: P.zip vs) m p = _
    unfold bindL
    rw [bindL_out fun v hv => (List.nodup_cons.mp nd).1 (List.of_mem_zip hv).1, if_pos hk]
    simp
  | p :: P, w :: vs, i + 1, m, nd, h1, h2, hk => by
    show bindL kindOf ((p, w) :: P.zip vs) m x = _
    unfold bindL
    exact bindL_get (i := i) (List.nodup_cons.mp nd).2 (by simpa using h1) (by simpa using h2) hk
theorem bindC_get {kindOf : Str → Option NameKind} {x : Str} {v : Value} : ∀ {P : List Str} {vs : List Value} {i : Nat} {m : Str → Option Value}, P.Nodup → P[i]? = some x → vs[i]? = some v → kindOf x ≠ some .local →
    bindC kindOf (P.zip vs) m x = some v
  | [], _, _, _, _, h, _, _ => by simp at h
  | _ :: _, [], _, _, _, _, h, _ => by simp at h
  | p :: P, w :: vs, 0, m, nd, h1, h2, hk => by
    simp at h1 h2; subst h1; subst h2
    show bindC kindOf ((p, w) :: P.zip vs) m p = _
    unfold bindC
    rw [bindC_out fun v hv => (List.nodup_cons.mp nd).1 (List.of_mem_zip hv).1, if_neg hk]
    simp
  | p :: P, w :: vs, i + 1, m, nd, h1, h2, hk => by
    show bindC kindOf ((p, w) :: P.zip vs) m x = _
    unfold bindC
    exact bindC_get (i := i) (List.nodup_cons.mp nd).2 (by simpa using h1) (by simpa using h2) hk
def start (N : List Str) (vs : List V) : St := vs.map some ++ List.replicate (N.length - vs.length) none
def cxOf (CX : CXT) (P : Program) (w : World) (K : PySem.W.Frag) (mg : Str → Option Value) (base : Heap) (N : List Str) (qual : Str) (scope : Scope) (f : Addr) (cd : Value) (A : Around) (outer : List Env) (s : Shared) (H : Hp) (E : XK) : Cx where
  prog := P
  w := w
  K := K
  mg := mg
  base := base
  A := A.deeper (envOfC qual scope s.heap.objs.size f cd)
  N := N
  s₀ := s
  H₀ := H
  env := envOfC qual scope s.heap.objs.size f cd
  outer := outer
  stack := envOfC qual scope s.heap.objs.size f cd :: outer
  ex := []
  calm := true
  fn := fun _ => true
  pn := []
  xe := fun e s' => wpAny (model P w) (A.deeper (envOfC qual scope s.heap.objs.size f cd)) (leaving (envOfC qual scope s.heap.objs.size f cd) e) (fun _ s'' => CX outer H s E e s'') (fun e' s'' => CX outer H s E e' s'') s'
theorem cell_has {sc : Scope} {n : Nat} {x : Str} (h : sc.names.lookup x = some .cell) : ∃ c, (cellsFrom n sc.names []).lookup x = some c := by
  have q := PySem.W.cellsFrom_some sc.names n [] (.inl h)
  exact Option.isSome_iff_exists.mp q
theorem inv_start {CX : CXT} {P : Program} {w : World} {K : PySem.W.Frag} {mg : Str → Option Value} {base : Heap} {N ps : List Str} {qual : Str} {scope : Scope} {f : Addr} {cd : Value} {A : Around} {outer : List Env} {s s1 : Shared} {H : Hp} {E : XK} {us : List Value} {vs : List V}
    (S : FnScope N ps scope) (hd : A.handled = none) (e0 : Env0 P w K mg base A outer s H) (hl : vs.length = ps.length) (r : Vals vs us)
    (x : InCallC s s.heap.objs.size (bindL (envOfC qual scope s.heap.objs.size f cd).kindOf (ps.zip us) fun _ => none) (cellsFrom (s.heap.objs.size + 1) scope.names []) (bindC (envOfC qual scope s.heap.objs.size f cd).kindOf (ps.zip us) fun _ => none) s1) :
    Inv (cxOf CX P w K mg base N qual scope f cd A outer s H E) [] (start N vs) H s1 := by
  have hpl : ps.length ≤ N.length := by have := congrArg List.length S.pre; rw [List.length_take] at this; omega
  obtain ⟨h1, tk, rfl, hk⟩ := x.done
  have noA : ∀ b : Addr, b ∉ (cxOf CX P w K mg base N qual scope f cd A outer s H E).ex := fun b z => absurd (show b ∈ ([] : List Addr) from z) (by simp)
  refine ⟨⟨e0.mod, S.kind, rfl, rfl, Nat.le_refl _, fun y z c h1 h2 => ?_, fun y hy => ?_, fun y c _ h => ?_, fun _ => hd, Around.frames_deeper e0.frames, .inr ⟨rfl, rfl⟩, fun b z => absurd z (noA b), e0.bs, e0.bsz, fun b _ _ => noA b, fun b z => absurd z (noA b), e0.funs, e0.frf⟩,
    rfl, e0.bare, Un.kept hk, ⟨_, x.toInCall.ns, fun i y v h1 h2 h3 => ?_⟩, fun y c h => ⟨_, x.cell y c h⟩, e0.hok.fresh (Nat.le_refl _), fun y c h => ?_, fun p hp => absurd (show p ∈ ([] : List (Addr × Obj)) from hp) (by simp), e0.hok.kept hk, ?_⟩
  · exact name_of_addr x.apart (PySem.mem_of_lookup h1) (PySem.mem_of_lookup h2)
  · have hy : scope.names.lookup y = some .cell ∨ scope.names.lookup y = some .free := hy
    rcases hy with hy | hy
    · exact cell_has hy
    · exact absurd rfl (S.nofree _ (PySem.mem_of_lookup hy))
  · exact Nat.le_of_lt (x.above y c (PySem.mem_of_lookup h))
  · have hi : i < vs.length := by
      unfold start at h2
      by_cases hi : i < vs.length
      · exact hi
      · rw [List.getElem?_append_right (by simpa using hi)] at h2
        rw [List.getElem?_replicate] at h2
        split at h2 <;> cases h2
    have ha : vs[i]? = some v := by
      unfold start at h2
      rw [List.getElem?_append_left (by simpa using hi), List.getElem?_map] at h2
      cases e : vs[i]? with
      | none => rw [e] at h2; cases h2
      | some a => rw [e] at h2; cases h2; rfl
    obtain ⟨u, hu, rv⟩ := r.get ha
    have hp : ps[i]? = some y := by
      rw [← S.pre, List.getElem?_take_of_lt (by omega)]; exact h1
    have ndP : ps.Nodup := by rw [← S.pre]; exact S.nd.sublist (List.take_sublist _ _)
    refine ⟨u, rv, ?_⟩
    rcases S.par y (List.mem_of_getElem? hp) with k | k
    · exact .inl ⟨k, bindL_get ndP hp hu k⟩
    · obtain ⟨c, e⟩ := cell_has (n := s.heap.objs.size + 1) k
      refine .inr ⟨.inl k, c, e, ?_⟩
      have q := x.cell y c e
      rw [bindC_get ndP hp hu (by show scope.names.lookup y ≠ _; rw [k]; decide)] at q
      exact q
  · exact e0.hok.fresh (Nat.le_of_lt (x.above y c (PySem.mem_of_lookup h)))
  · unfold start
    show _ = N.length
    rw [List.length_append, List.length_map, List.length_replicate]
    omega
theorem fn_of {CX : CXT} {P : Program} {w : World} {K : PySem.W.Frag} {mg : Str → Option Value} {base : Heap} {k : Nat} {f : Addr} {name qual : Str} {params : Arguments} {body : List Stmt} {scope : Scope} {dV kV doc pm cdv ct oc : Value} {an od : Option Addr}
    {osl : Array (Option Value)} {N ps : List Str} {sp : Sp} (lk : K.lookup f = some ⟨oc, od, .func (PySem.W.fnOf name qual params body scope dV kV doc pm an cdv ct), osl⟩) (hcd : PySem.W.codeIn K cdv qual = true) (S : FnScope N ps scope)
    (len : ∀ vs H Q E, sp vs H Q E → vs.length = ps.length)
    (hbody : ∀ (A : Around) (outer : List Env) (s : Shared) (H : Hp) (vs : List V) (Q : VK) (E : XK), Room k (A.deeper (envOfC qual scope s.heap.objs.size f cdv)) → sp vs H Q E →
      ∃ t, PSs (cxOf CX P w K mg base N qual scope f cdv A outer s H E) body t ∧ t { nx := fun _ H' => Q .non H', rt := Q } (start N vs) H) :
    FnOk P w K mg base CX (k + 1) f (PySem.W.fnOf name qual params body scope dV kV doc pm an cdv ct) ps sp := by
  refine ⟨len, fun A outer s H args us vs Q E hr e0 hb r hsp => ?_⟩
  have hl := len _ _ _ _ hsp
  have KX : K.In s.heap := e0.mod.kin.keeps fun b o e => (e0.bs b o e).1
  have lim : s.heap.NoLimit := e0.mod.nolimit.keeps fun b o e => (e0.bs b o e).1
  have hkind : ∀ y ∈ ps.zip us, scope.names.lookup y.1 = some .local ∨ (scope.names.lookup y.1 = some .cell ∧ ((cellsFrom (s.heap.objs.size + 1) scope.names []).lookup y.1).isSome = true) := fun ⟨n, v⟩ hy => by
    rcases S.par n (List.of_mem_zip hy).1 with q | q
    · exact .inl q
    · exact .inr ⟨q, PySem.W.cellsFrom_some _ _ _ (.inl q)⟩
  refine codeAny_call_function hr.depth (KX _ _ lk) rfl S.co S.gen rfl (PySem.W.codeRec_of KX hcd) (hb _ _ _ _ ?_)
  refine wpAny_newFunctionEnv_cells S.kind hkind fun env he s1 x => ?_
  subst he
  refine ⟨lim.keeps x.toInCall.keep, codeAny_func ?_⟩
  obtain ⟨t, ht, hq⟩ := hbody A outer s H vs Q E (hr.deeper _) hsp
  have I : Inv (cxOf CX P w K mg base N qual scope f cdv A outer s H E) [] (start N vs) H s1 := inv_start S hr.hd e0 hl r x
  refine wpAny_mono (ht [] s1 (start N vs) H _ I hq) (fun fl s' hs => ?_) fun e s' hs => hs
  have fin : ∀ {σ' : St} {H' : Hp} {v : V} {u : Value}, Inv (cxOf CX P w K mg base N qual scope f cdv A outer s H E) [] σ' H' s' → RelV v u → Q v H' → CE outer P w H s Q u s' :=
    fun {σ' H' v u} J rv q => ⟨v, H', J.os, J.bare, J.base, J.hok, rv, q⟩
  cases fl with
  | ret u =>
    obtain ⟨v, σ', H', J, rv, q⟩ := hs
    exact fin J rv q
  | next =>
    obtain ⟨σ', H', J, q⟩ := hs
    exact fin (v := V.non) (u := Value.none) J rfl q
  | brk =>
    obtain ⟨_, _, _, q⟩ := hs
    exact False.elim q
  | cont =>
    obtain ⟨_, _, _, q⟩ := hs
    exact False.elim q
end L2
namespace L2
open PySem PySem.Spec PyProof.Rows
section
variable {X : Cx} {x : Str} {p pos : Pos} {e : Expr} {es : List Expr} {t : TA} {id T : String} {r : List V → Hp → VK → Prop}
def tCB (r : List V → Hp → VK → Prop) (t : TA) : TE := fun σ H Q => t σ H fun vs H1 => r vs H1 Q
theorem pe_callB (hc : CallR X (.builtin id) r) (hg : Gl X x) (hm : X.mg x = none) (hv : bootBuiltins x = some (.builtin id)) (ha : PA X (e :: es) t) (hn : x ≠ "__name__" := by decide) (hdb : (x == ("__debug__" : Str)) = false := by decide)
    (he : starEach (e :: es) X.env = (false, eval e X.env) :: starEach es X.env := by rfl) (hpl : (backTo pos (starEach es X.env)).any (·.1) = false := by rfl) : PE X (.Call (.Name x p) (e :: es) [] pos) (tCB r t) := by
  intro pins s σ H Q I h
  refine wpAny_Call_Name_kw (ld_blt I hg hm hv ?_ hn hdb)
  exact PyProof.Rows.callWith_builtin1 (thn (ha pos pins s σ H _ I h) fun us s1 ⟨vs, H1, I1, r1, q1⟩ => hc pins s1 σ H1 vs us Q I1 r1 q1) he hpl
theorem pe_callTy (hc : CallR X (.type T) r) (hg : Gl X x) (hm : X.mg x = none) (hv : bootBuiltins x = some (.type T)) (ha : PA X (e :: es) t) (hn : x ≠ "__name__" := by decide) (hdb : (x == ("__debug__" : Str)) = false := by decide)
    (he : starEach (e :: es) X.env = (false, eval e X.env) :: starEach es X.env := by rfl) (hpl : (backTo pos (starEach es X.env)).any (·.1) = false := by rfl) : PE X (.Call (.Name x p) (e :: es) [] pos) (tCB r t) := by
  intro pins s σ H Q I h
  refine wpAny_Call_Name_kw (ld_blt I hg hm hv ?_ hn hdb)
  exact PyProof.Rows.callWith_type1 (thn (ha pos pins s σ H _ I h) fun us s1 ⟨vs, H1, I1, r1, q1⟩ => hc pins s1 σ H1 vs us Q I1 r1 q1) he hpl
end
end L2
namespace HT
open PySem PyProof.Rows
section
open PySem.SeqAt
open PySem.AutoSeq1 (wpAny_loadPart')
open PySem.MeetsSeq PySem.MeetsSeq2 PySem.MeetsSeq3
end
section
variable {prog : Program} {w : World} {A : Around} {E : Value → Shared → Prop} {s : Shared}
theorem cat_tup {t b : Addr} {vs ws : List Value} {Q : Value → Shared → Prop} (ht : IsTup s.heap t vs.toArray) (hb : IsTup s.heap b ws.toArray) (hv : vs ≠ [])
    (h1 : ws = [] → Q (.ref t) s) (h2 : ws ≠ [] → Q (.ref s.heap.objs.size) { s with heap := s.heap.push { cls := .type "tuple", data := .seq (vs ++ ws).toArray } })
    (hsz : vs.length + ws.length ≤ sizeLine) : wpAny (model prog w) A (binaryOp .Add (.ref t) (.ref b)) Q E s := by
  obtain ⟨⟨cls, dd, data, sl⟩, ho, hc, n, hd⟩ := id ht
  obtain ⟨⟨cls2, dd2, data2, sl2⟩, ho2, hc2, n2, hd2⟩ := id hb
  simp only at hc hd hc2 hd2
  subst hc hd hc2 hd2
  have e : vs.toArray ++ ws.toArray = (vs ++ ws).toArray := by simp
  by_cases hw : ws = []
  · exact concat_meets ⟨_, ho, rfl⟩ ⟨_, ho2, rfl⟩ noFill_tuple_add seq_tuple_add PySem.F.slot_tuple_add PySem.F.entry_tuple_add (PySem.F.args_tuple_add_2 _ _)
      (tuple_addW1 t b vs.toArray ws.toArray n n2 dd dd2 sl sl2 (by simpa using hv) (by simp [hw])) ⟨ho, ho2, h1 hw⟩
  · refine concat_meets ⟨_, ho, rfl⟩ ⟨_, ho2, rfl⟩ noFill_tuple_add seq_tuple_add PySem.F.slot_tuple_add PySem.F.entry_tuple_add (PySem.F.args_tuple_add_2 _ _)
      (tuple_addW2 t b vs.toArray ws.toArray n n2 dd dd2 sl sl2 (by simpa using hv) (by simpa using hw) (by rw [List.size_toArray, List.size_toArray]; exact hsz)) ⟨ho, ho2, ?_⟩
    rw [e]
    exact h2 hw
def sIx (n d : Nat) : Option Int → Nat
  | none => d
  | some v => if v < 0 then (v + (n : Int)).toNat else min v.toNat n
theorem sIx_none (n d : Nat) : sIx n d none = d := rfl
theorem sIx_nat (n d k : Nat) : sIx n d (some (k : Int)) = min k n := by
  show (if (k : Int) < 0 then ((k : Int) + (n : Int)).toNat else min (k : Int).toNat n) = min k n
  rw [if_neg (by omega), Int.toNat_natCast]
theorem sIx_le (n d : Nat) (hd : d ≤ n) (o : Option Int) : sIx n d o ≤ n := by
  cases o with
  | none => exact hd
  | some v =>
    show (if v < 0 then (v + (n : Int)).toNat else min v.toNat n) ≤ n
    by_cases hv : v < 0
    · rw [if_pos hv]; omega
    · rw [if_neg hv]; exact Nat.min_le_right _ _
theorem clip_eq (v : Int) (n d : Nat) : (if v < 0 then max (v + (n : Int)) 0 else min v (n : Int)) = ((sIx n d (some v) : Nat) : Int) := by
  show (if v < 0 then max (v + (n : Int)) 0 else min v (n : Int)) = (((if v < 0 then (v + (n : Int)).toNat else min v.toNat n) : Nat) : Int)
  by_cases hv : v < 0
  · simp only [if_pos hv]; omega
  · simp only [if_neg hv]; omega
theorem adjust_gen (lo hi : Option Int) (n : Nat) : Builtin.Slice.sliceAdjust lo hi 1 (n : Int) = (((sIx n 0 lo : Nat) : Int), ((sIx n n hi : Nat) : Int)) := by
  have h1 : ¬ ((1 : Int) < 0) := by omega
  unfold Builtin.Slice.sliceAdjust
  simp only [h1, if_false]
  refine Prod.ext ?_ ?_
  · cases lo with
    | none => rfl
    | some v => exact clip_eq v n 0
  · cases hi with
    | none => rfl
    | some v => exact clip_eq v n n
theorem places_gen (i j : Nat) : Builtin.Slice.slicePlaces (i : Int) (j : Int) 1 = j - i := by
  unfold Builtin.Slice.slicePlaces
  have h1 : (1 : Int) > 0 := by omega
  simp only [h1, if_true, Int.ediv_one]
  split <;> omega
theorem slicePart_ {v : Value} {o : Option Int} {Q : Option Int → Shared → Prop} (p : IsPart v o) (h : Q o s) : wpAny (model prog w) A (Builtin.Slice.slicePartIndex v) Q E s := by
  cases p with
  | none => exact slicePart_none h
  | int i t => exact slicePart_int h
theorem sliceApplied_gen {sl : Addr} {vl vu : Value} {lo hi : Option Int} {n : Nat} {Q : Int × Int × Nat → Shared → Prop} (hs : s.heap.IsSliceOf sl vl vu .none) (pl : IsPart vl lo) (pu : IsPart vu hi)
    (h : Q (((sIx n 0 lo : Nat) : Int), 1, sIx n n hi - sIx n 0 lo) s) : wpAny (model prog w) A (Builtin.Slice.sliceApplied (.ref sl) (pure (n : Int))) Q E s := by
  obtain ⟨os, hos, hcs, hds⟩ := id hs
  unfold Builtin.Slice.sliceApplied Builtin.Slice.sliceFields
  refine wpAny_bind (wpAny_bind (wpAny_field hos hds (x := vl) rfl (wpAny_bind (wpAny_field hos hds (x := vu) rfl (wpAny_bind (wpAny_field hos hds (x := .none) rfl (wpAny_pure ?_)))))))
  refine wpAny_bind (slicePart_none ?_)
  show wpAny _ _ (if ((1 : Int) == 0) = true then _ else _) _ _ s
  rw [if_neg (by decide)]
  refine wpAny_bind (slicePart_ pl (wpAny_bind (slicePart_ pu (wpAny_bind (wpAny_pure ?_)))))
  show wpAny _ _ (match Builtin.Slice.sliceAdjust lo hi 1 (n : Int) with | (lo, hi) => pure (lo, (1 : Int), Builtin.Slice.slicePlaces lo hi 1)) _ _ s
  rw [adjust_gen lo hi n]
  show wpAny _ _ (pure (((sIx n 0 lo : Nat) : Int), (1 : Int), Builtin.Slice.slicePlaces ((sIx n 0 lo : Nat) : Int) ((sIx n n hi : Nat) : Int) 1)) _ _ s
  rw [places_gen]
  exact wpAny_pure h
theorem pick_gen (xs : Array Value) (i k : Nat) : ((List.range k).filterMap fun (m : Nat) => xs[((i : Int) + (m : Int) * 1).toNat]?).toArray = ((xs.toList.drop i).take k).toArray := by
  have e : (fun (m : Nat) => xs[((i : Int) + (m : Int) * 1).toNat]?) = fun m => xs[i + m]? := by
    funext m
    have : ((i : Int) + (m : Int) * 1).toNat = i + m := by omega
    rw [this]
  rw [e]
  have := pick_run xs i k
  rw [List.filterMap_map] at this
  have e2 : ((fun x => xs[x]?) ∘ fun x => i + x) = fun m => xs[i + m]? := rfl
  rw [e2] at this
  rw [this]
theorem getItem_tuple_cut {t sl : Addr} {items : Array Value} {vl vu : Value} {lo hi : Option Int} {Q : Value → Shared → Prop} (ht : IsTup s.heap t items) (hs : s.heap.IsSliceOf sl vl vu .none) (pl : IsPart vl lo) (pu : IsPart vu hi)
    (hw : ¬ (sIx items.size 0 lo = 0 ∧ sIx items.size items.size hi = items.size))
    (h : Q (.ref s.heap.objs.size) { s with heap := s.heap.push { cls := .type "tuple", data := .seq ((items.toList.drop (sIx items.size 0 lo)).take (sIx items.size items.size hi - sIx items.size 0 lo)).toArray } })
    (hsz : items.size ≤ sizeLine) : wpAny (model prog w) A (getItem (.ref t) (.ref sl)) Q E s := by
  have htake : sizeOk (.seq ((items.toList.drop (sIx items.size 0 lo)).take (sIx items.size items.size hi - sIx items.size 0 lo)).toArray) := by
    show ((items.toList.drop (sIx items.size 0 lo)).take (sIx items.size items.size hi - sIx items.size 0 lo)).toArray.size ≤ sizeLine
    rw [List.size_toArray, List.length_take, List.length_drop, Array.length_toList]
    omega
  have hj : sIx items.size items.size hi ≤ items.size := sIx_le _ _ (Nat.le_refl _) hi
  obtain ⟨os, hos, hcs, hds⟩ := id hs
  have hTs : s.TypeIs (.ref sl) "slice" := ⟨os, hos, hcs⟩
  unfold getItem
  try with_reducible refine wpAny_holding ?_
  first | refine wpAny_bind (wpAny_pure ?_) | skip
  refine wpAny_bind (wpAny_sequenceKey ht.typeIs (by decide) ?_)
  refine wpAny_bind (wpAny_callSpecial?_slot (name := Str.ofString "__getitem__") ht.typeIs PyProof.Rows.slot_tuple_getitem
    (wpAny_call_entry PyProof.Rows.slot_tuple_getitem ht.typeIs entry_tuple_getitem ?_ (args_tuple_getitem _ _)))
  show wpAny _ _ (Builtin.Tuple.tupleItemsOf (.ref t) >>= _) _ _ s
  refine wpAny_bind (tupleItemsOf_ ht ?_)
  refine wpAny_bind (wpAny_typeOf hTs ?_)
  rw [if_pos (by decide)]
  refine wpAny_bind (sliceApplied_gen hs pl pu ?_)
  have hno : ¬ ((((sIx items.size 0 lo : Nat) : Int) == 0 && (1 : Int) == 1 && (sIx items.size items.size hi - sIx items.size 0 lo) == items.size) = true) := by
    intro q
    rw [Bool.and_eq_true, Bool.and_eq_true] at q
    have q1 : ((sIx items.size 0 lo : Nat) : Int) = 0 := eq_of_beq q.1.1
    have q2 : sIx items.size items.size hi - sIx items.size 0 lo = items.size := eq_of_beq q.2
    exact hw ⟨by omega, by omega⟩
  show wpAny _ _ (if (((sIx items.size 0 lo : Nat) : Int) == 0 && (1 : Int) == 1 && (sIx items.size items.size hi - sIx items.size 0 lo) == items.size) = true then _ else _) _ _ s
  rw [if_neg hno, pick_gen]
  first
    | exact wpAny_bind (m := Builtin.Tuple.tupleExact _) (wpAny_newObj_type (wpAny_pure ⟨_, rfl, wpAny_pure h⟩) htake)
    | exact wpAny_bind (m := Builtin.Tuple.tupleExact _) (wpAny_newObj_type (wpAny_bind (wpAny_pure (wpAny_pure ⟨_, rfl, wpAny_pure h⟩))) htake)
    | exact wpAny_bind (wpAny_bind (m := Builtin.Tuple.tupleExact _) (wpAny_newObj_type (wpAny_pure (wpAny_pure ⟨_, rfl, wpAny_pure h⟩)) htake))
    | exact wpAny_bind (wpAny_bind (m := Builtin.Tuple.tupleExact _) (wpAny_newObj_type (wpAny_pure ⟨_, rfl, wpAny_pure h⟩) htake))
end
end HT
namespace L2
open PySem PySem.Spec PyProof.Rows
abbrev TO := St → Hp → (Option Int → Hp → Prop) → Prop
def PO (X : Cx) (e : Option Expr) (t : TO) : Prop :=
  ∀ (pins : List (Addr × Obj)) (s : Shared) (σ : St) (H : Hp) (Q : Option Int → Hp → Prop), Inv X pins σ H s → t σ H Q →
    wpAny (model X.prog X.w) X.A (evalPart e X.env) (fun u s' => ∃ o H', Inv X pins σ H' s' ∧ IsPart u o ∧ Q o H') X.xe s
def tNoPart : TO := fun _ H Q => Q none H
def tPart (t : TE) : TO := fun σ H Q => t σ H fun x H1 => ∃ i, x = .int i ∧ Q (some i) H1
section
variable {X : Cx} {e : Expr} {te : TE} {lo hi : Option Expr} {tl th : TO} {pos p2 : Pos}
theorem po_none : PO X none tNoPart := by
  intro pins s σ H Q I h
  rw [evalPart_none]
  exact wpAny_pure ⟨none, H, I, .none, h⟩
theorem po_some (h : PE X e te) : PO X (some e) (tPart te) := by
  intro pins s σ H Q I hw
  rw [evalPart_some]
  refine thn (h pins s σ H _ I hw) fun u s1 ⟨x, H1, I1, r1, q1⟩ => ?_
  obtain ⟨i, rfl, q⟩ := q1
  obtain ⟨t, rfl⟩ := r1
  exact ⟨some i, H1, I1, .int i t, q⟩
def SlR (X : Cx) (r : V → Option Int → Option Int → Hp → VK → Prop) : Prop :=
  ∀ (pins : List (Addr × Obj)) (s : Shared) (σ : St) (H : Hp) (x : V) (v vl vu : Value) (lo hi : Option Int) (sl : Addr) (Q : VK), Inv X pins σ H s → RelV x v → s.heap.IsSliceOf sl vl vu .none → IsPart vl lo → IsPart vu hi → r x lo hi H Q →
    ∃ T id, typeLookup (.type T) "__getitem__" = pure (some (.builtin id)) ∧ s.TypeIs v T ∧ wpAny (model X.prog X.w) X.A (getItem v (.ref sl)) (EP X pins σ Q) X.xe s
theorem SlR.or {r r' : V → Option Int → Option Int → Hp → VK → Prop} (h : SlR X r) (h' : SlR X r') : SlR X (fun x lo hi H Q => r x lo hi H Q ∨ r' x lo hi H Q) := by
  intro pins s σ H x v vl vu lo hi sl Q I rx hs pl pu q
  rcases q with q | q
  · exact h pins s σ H x v vl vu lo hi sl Q I rx hs pl pu q
  · exact h' pins s σ H x v vl vu lo hi sl Q I rx hs pl pu q
def tSl (r : V → Option Int → Option Int → Hp → VK → Prop) (te : TE) (tl th : TO) : TE := fun σ H Q => te σ H fun x H1 => tl σ H1 fun l H2 => th σ H2 fun u H3 => r x l u H3 Q
theorem pe_slice {r : V → Option Int → Option Int → Hp → VK → Prop} (hr : SlR X r) (he : PE X e te) (hl : PO X lo tl) (hu : PO X hi th) : PE X (.Subscript e (.Slice lo hi none p2) pos) (tSl r te tl th) := by
  intro pins s σ H Q I h
  refine Subscript_ (thn (he pins s σ H _ I h) fun v s1 ⟨x, H1, I1, r1, q1⟩ => ?_)
  refine wpAny_Slice (thn (hl pins s1 σ H1 _ I1 q1) fun vl s2 ⟨l, H2, I2, pl, q2⟩ => thn (hu pins s2 σ H2 _ I2 q2) fun vu s3 ⟨u, H3, I3, pu, q3⟩ => ?_)
  rw [evalPart_none]
  refine wpAny_pure ?_
  have I4 : Inv X pins σ H3 { s3 with heap := s3.heap.push { cls := .type "slice", data := .fields #[vl, vu, .none] } } := I3.kept (t' := s3.toks) fun b ob q => Heap.get?_push_of_some _ q
  obtain ⟨T, id, hT, ht, hg⟩ := hr pins { s3 with heap := s3.heap.push { cls := .type "slice", data := .fields #[vl, vu, .none] } } σ H3 x v vl vu l u s3.heap.objs.size Q I4 r1 (Heap.IsSliceOf.new ..) pl pu q3
  show wpAny (model X.prog X.w) X.A (subscriptTail e (.Slice lo hi none p2) v (.ref s3.heap.objs.size)) (EP X pins σ Q) X.xe { s3 with heap := s3.heap.push { cls := .type "slice", data := .fields #[vl, vu, .none] } }
  exact tail_any (ops := [.ref s3.heap.objs.size, v]) ht hT hg (by with_unfolding_all rfl)
def cutV (xs : List V) (lo hi : Option Int) : List V := (xs.drop (HT.sIx xs.length 0 lo)).take (HT.sIx xs.length xs.length hi - HT.sIx xs.length 0 lo)
theorem cutV_length (xs : List V) (lo hi : Option Int) : (cutV xs lo hi).length ≤ xs.length := by
  unfold cutV
  rw [List.length_take, List.length_drop]
  omega
def rSlT (K : PySem.W.Frag) : V → Option Int → Option Int → Hp → VK → Prop := fun x lo hi H Q => ∃ a xs, x = .ref a ∧ SqT K H a xs ∧
  ¬ (HT.sIx xs.length 0 lo = 0 ∧ HT.sIx xs.length xs.length hi = xs.length) ∧ ∀ p, H p = none → Q (.ref p) (upd H p (.tup (cutV xs lo hi)))
theorem sl_tup : SlR X (rSlT X.K) := by
  intro pins s σ H x v vl vu lo hi sl Q I rx hs pl pu h
  obtain ⟨a, xs, rfl, hx, hw, q⟩ := h
  cases rx
  obtain ⟨its, r, ht, hz⟩ := I.tuple hx
  have hlen : its.toArray.size = xs.length := by rw [List.size_toArray]; exact r.length.symm
  refine ⟨"tuple", _, PyProof.Rows.slot_tuple_getitem.lookup, ht.typeIs, ?_⟩
  refine HT.getItem_tuple_cut ht hs pl pu (by rw [hlen]; exact hw) ?_ (by rw [hlen]; exact hz)
  rw [hlen]
  refine ⟨.ref s.heap.objs.size, _, I.laid (t' := s.toks) (o := .tup (cutV xs lo hi)) (fun b ob q => Heap.get?_push_of_some _ q) (Nat.le_refl _) ?_, rfl, q _ (I.hok.fresh (Nat.le_refl _))⟩
  exact ⟨Nat.le_trans (cutV_length xs lo hi) hz, _, (r.drop (HT.sIx xs.length 0 lo)).take (HT.sIx xs.length xs.length hi - HT.sIx xs.length 0 lo), ⟨_, Heap.get?_push_size _ rfl, rfl, _, rfl, rfl⟩⟩
def rCatT (K : PySem.W.Frag) : R2 := fun x y H Q => ∃ a b xs ys, x = .ref a ∧ y = .ref b ∧ SqT K H a xs ∧ SqT K H b ys ∧ xs ≠ [] ∧ xs.length + ys.length ≤ sizeLine ∧
  (ys = [] → Q (.ref a) H) ∧ (ys ≠ [] → ∀ p, H p = none → Q (.ref p) (upd H p (.tup (xs ++ ys))))
theorem Vals.nil_iff {xs : List V} {us : List Value} (r : Vals xs us) : us = [] ↔ xs = [] := by
  cases r with
  | nil => simp
  | cons _ _ => simp
theorem op_catT : OpR X (binaryOp .Add) (rCatT X.K) := by
  intro pins s σ H x y v u Q I rx ry h
  obtain ⟨a, b, xs, ys, rfl, rfl, ha, hb, hx, hz, q1, q2⟩ := h
  cases rx
  cases ry
  obtain ⟨its, r1, p1, _⟩ := I.tuple ha
  obtain ⟨its2, r2, p2, _⟩ := I.tuple hb
  refine HT.cat_tup p1 p2 (fun z => hx (r1.nil_iff.mp z)) (fun z => ⟨.ref a, H, I, rfl, q1 (r2.nil_iff.mp z)⟩) (fun z => ?_) (by rw [← r1.length, ← r2.length]; exact hz)
  refine ⟨.ref s.heap.objs.size, _, I.laid (t' := s.toks) (o := .tup (xs ++ ys)) (fun b ob q => Heap.get?_push_of_some _ q) (Nat.le_refl _) ?_, rfl, q2 (fun w => z (r2.nil_iff.mpr w)) _ (I.hok.fresh (Nat.le_refl _))⟩
  exact ⟨by rw [List.length_append]; exact hz, _, r1.append r2, ⟨_, Heap.get?_push_size _ rfl, rfl, _, rfl, rfl⟩⟩
end
end L2
namespace L2
open PySem PySem.Spec PyProof.Rows
def ixN (n : Nat) (i : Int) : Option Nat := if 0 ≤ i then (if i < n then some i.toNat else none) else if -(n : Int) ≤ i then some (i + n).toNat else none
def atI {α : Type} (xs : List α) (i : Int) : Option α := (ixN xs.length i).bind fun j => xs[j]?
theorem ixN_seq {n : Nat} {i : Int} {j : Nat} (h : ixN n i = some j) : seqIndex? i n = some j ∧ j < n ∧ -(n : Int) ≤ i ∧ i < n := by
  unfold ixN at h
  by_cases h0 : 0 ≤ i
  · rw [if_pos h0] at h
    by_cases h1 : i < n
    · rw [if_pos h1] at h
      have e : i.toNat = j := Option.some.inj h
      exact ⟨by rw [seqIndex_of h0 h1, e], by omega, by omega, h1⟩
    · rw [if_neg h1] at h; cases h
  · rw [if_neg h0] at h
    by_cases h1 : -(n : Int) ≤ i
    · rw [if_pos h1] at h
      have e : (i + n).toNat = j := Option.some.inj h
      exact ⟨by rw [seqIndex_neg (by omega) h1, e], by omega, h1, by omega⟩
    · rw [if_neg h1] at h; cases h
theorem atI_get {α : Type} {xs : List α} {i : Int} {v : α} (h : atI xs i = some v) : ∃ j, seqIndex? i xs.length = some j ∧ xs[j]? = some v ∧ j < xs.length ∧ -(xs.length : Int) ≤ i ∧ i < xs.length := by
  unfold atI at h
  cases e : ixN xs.length i with
  | none => rw [e] at h; cases h
  | some j =>
    rw [e] at h
    obtain ⟨h1, h2, h3, h4⟩ := ixN_seq e
    exact ⟨j, h1, h, h2, h3, h4⟩
theorem atI_nat {α : Type} {xs : List α} {j : Nat} {v : α} (h : xs[j]? = some v) : atI xs (j : Int) = some v := by
  have hj : j < xs.length := (List.getElem?_eq_some_iff.mp h).1
  have e : ixN xs.length (j : Int) = some j := by
    unfold ixN
    rw [if_pos (by omega), if_pos (by omega)]; simp
  unfold atI; rw [e]; exact h
def PlainIx (b : Expr) : Prop := ∀ o i, subscripted b false o i = operate [o, i] (getItem o i)
def IxR (X : Cx) (r : R2) : Prop :=
  ∀ (value slice : Expr) (pins : List (Addr × Obj)) (s : Shared) (σ : St) (H : Hp) (x y : V) (v u : Value) (Q : VK), Inv X pins σ H s → RelV x v → RelV y u → r x y H Q →
    subscripted slice false v u = operate [v, u] (getItem v u) → wpAny (model X.prog X.w) X.A (subscriptTail value slice v u) (EP X pins σ Q) X.xe s
def MtR (X : Cx) (id : String) (r : V → List V → Hp → VK → Prop) : Prop :=
  ∀ (pins : List (Addr × Obj)) (s : Shared) (σ : St) (H : Hp) (x : V) (xs : List V) (v : Value) (us : List Value) (Q : VK), Inv X pins σ H s → RelV x v → Vals xs us → r x xs H Q →
    wpAny (model X.prog X.w) X.A (call (.builtin id) (v :: us)) (EP X pins σ Q) X.xe s
section
variable {X : Cx} {a b : Expr} {ta tb : TE} {pos : Pos}
theorem IxR.or {r r' : R2} (h : IxR X r) (h' : IxR X r') : IxR X (fun x y H Q => r x y H Q ∨ r' x y H Q) := by
  intro value slice pins s σ H x y v u Q I rx ry q hs
  rcases q with q | q
  · exact h value slice pins s σ H x y v u Q I rx ry q hs
  · exact h' value slice pins s σ H x y v u Q I rx ry q hs
theorem MtR.or {id : String} {r r' : V → List V → Hp → VK → Prop} (h : MtR X id r) (h' : MtR X id r') : MtR X id (fun x xs H Q => r x xs H Q ∨ r' x xs H Q) := by
  intro pins s σ H x xs v us Q I rx rs q
  rcases q with q | q
  · exact h pins s σ H x xs v us Q I rx rs q
  · exact h' pins s σ H x xs v us Q I rx rs q
theorem pe_ix {r : R2} (hr : IxR X r) (ha : PE X a ta) (hb : PE X b tb) (hs : PlainIx b) : PE X (.Subscript a b pos) (tOp r ta tb) := by
  intro pins s σ H Q I h
  exact Subscript_ (binT ha hb I h fun v u s2 x y H2 I2 rx ry q => hr a b pins s2 σ H2 x y v u Q I2 rx ry q (hs _ _))
def rIxL (K : PySem.W.Frag) : R2 := fun x y H Q => ∃ p xs i v, x = .ref p ∧ y = .int i ∧ SqL K H p xs ∧ atI xs i = some v ∧ Q v H
def rIxT (K : PySem.W.Frag) : R2 := fun x y H Q => ∃ p xs i v, x = .ref p ∧ y = .int i ∧ SqT K H p xs ∧ atI xs i = some v ∧ Q v H
def rIxS : R2 := fun x y H Q => ∃ z i c, x = .str z ∧ y = .int i ∧ z.length ≤ sizeLine ∧ atI z.cps.toList i = some c ∧ Q (.str ⟨#[c]⟩) H
theorem ix_list : IxR X (rIxL X.K) := by
  intro value slice pins s σ H x y v u Q I rx ry h hs
  obtain ⟨p, xs, i, z, rfl, rfl, hq, he, q⟩ := h
  cases rx
  obtain ⟨t, rfl⟩ := ry
  obtain ⟨its, r, pl, hz⟩ := I.list hq
  obtain ⟨j, h1, h2, h3, h4, h5⟩ := atI_get he
  obtain ⟨w, ew, rw'⟩ := r.get h2
  have hl := r.length
  have hn := line63
  have fin : EP X pins σ Q w s := ⟨z, H, I, rw', q⟩
  by_cases h0 : 0 ≤ i
  · have hj : i.toNat = j := by
      rw [seqIndex_of h0 h5] at h1
      exact Option.some.inj h1
    exact item_listR pl.isList h0 (by omega) (by rw [hj]; simpa using ew) fin hs
  · have hj : (i + (its.toArray.size : Int)).toNat = j := by
      rw [seqIndex_neg (by omega) h4] at h1
      rw [List.size_toArray, ← hl]
      exact Option.some.inj h1
    exact subscriptTail_builtinR (x := w) pl.isList.typeIs slot_list_getitem.lookup
      (wpAny_getItem_list_neg (Q := fun r s' => r = w ∧ EP X pins σ Q r s') pl.isList (by omega) (by rw [List.size_toArray] <;> omega) (by omega) (by rw [hj]; simpa using ew) ⟨rfl, fin⟩) hs
theorem ix_tup : IxR X (rIxT X.K) := by
  intro value slice pins s σ H x y v u Q I rx ry h hs
  obtain ⟨p, xs, i, z, rfl, rfl, hq, he, q⟩ := h
  cases rx
  obtain ⟨t, rfl⟩ := ry
  obtain ⟨its, r, pl, hz⟩ := I.tuple hq
  obtain ⟨j, h1, h2, h3, h4, h5⟩ := atI_get he
  obtain ⟨w, ew, rw'⟩ := r.get h2
  have hl := r.length
  have hn := line63
  have fin : EP X pins σ Q w s := ⟨z, H, I, rw', q⟩
  exact subscriptTail_builtinR (x := w) pl.typeIs slot_tuple_getitem.lookup
    (getItem_tuple (j := j) (Q := fun r s' => r = w ∧ EP X pins σ Q r s') pl (by omega) (by omega) (by rw [List.size_toArray, ← hl]; exact h1) (by simpa using ew) ⟨rfl, fin⟩) hs
theorem ix_str : IxR X rIxS := by
  intro value slice pins s σ H x y v u Q I rx ry h hs
  obtain ⟨z, i, c, rfl, rfl, hz, he, q⟩ := h
  obtain ⟨t, rfl⟩ := rx
  obtain ⟨t', rfl⟩ := ry
  obtain ⟨j, h1, h2, h3, h4, h5⟩ := atI_get he
  have hl : z.cps.toList.length = z.length := by simp [Str.length]
  rw [hl] at h1 h4 h5
  have hn := line63
  exact tail_any (typeIs_str s z t) slot_str_getitem.lookup (getItem_str (c := c) (by
    have e1 : decide (i < -(2 ^ 63 : Int)) = false := decide_eq_false (by omega)
    have e2 : decide (i ≥ 2 ^ 63) = false := decide_eq_false (by omega)
    rw [e1, e2, Bool.or_false]) (by rw [h1]; simpa using h2) ⟨.str ⟨#[c]⟩, H, I.tok _, ⟨_, rfl⟩, q⟩) hs
theorem mapSeq_set (its : List Value) (n j : Nat) (u : Value) : Obj.mapSeq (·.setIfInBounds j u) { cls := .type "list", data := .seq its.toArray n } = { cls := .type "list", data := .seq (its.set j u).toArray n } := by
  simp [Obj.mapSeq]
theorem Inv.lst {pins : List (Addr × Obj)} {σ : St} {H : Hp} {s : Shared} {p : Addr} {xs : List V} (I : Inv X pins σ H s) (h : H p = some (.lst xs)) :
    ∃ (its : List Value) (n : Nat), Vals xs its ∧ s.heap.get? p = some { cls := .type "list", data := .seq its.toArray n } ∧ xs.length ≤ sizeLine := by
  obtain ⟨z, its, n, r, e⟩ := I.hok p _ h
  exact ⟨its, n, r, e, z⟩
theorem Inv.lstUpd {pins : List (Addr × Obj)} {σ : St} {H : Hp} {s : Shared} {p : Addr} {xs ys : List V} {its its' : List Value} {n n' : Nat} {f : Obj → Obj} (I : Inv X pins σ H s) (h : H p = some (.lst xs))
    (ho : s.heap.get? p = some { cls := .type "list", data := .seq its.toArray n }) (hf : f { cls := .type "list", data := .seq its.toArray n } = { cls := .type "list", data := .seq its'.toArray n' }) (r : Vals ys its') (hz : ys.length ≤ sizeLine) (t : Nat) :
    Inv X pins σ (upd H p (.lst ys)) { s with heap := s.heap.update p f, toks := t } := by
  have e : (s.heap.update p f).get? p = some { cls := .type "list", data := .seq its'.toArray n' } := by
    rw [Heap.get?_update_self f ho (by rw [hf] <;> rfl), hf]
  refine I.write (x := p) (e := p) (by rw [h]; trivial) (.inl rfl) (fun b u hb q => (Heap.get?_update_other _ _ (Ne.symm hb)).trans q) ⟨_, e⟩ ?_
  exact ⟨hz, its', n', r, e⟩
def rSetL : V → V → V → Hp → (Hp → Prop) → Prop := fun o i v H Q => ∃ p xs k j, o = .ref p ∧ i = .int k ∧ H p = some (.lst xs) ∧ ixN xs.length k = some j ∧ Q (upd H p (.lst (xs.set j v)))
theorem set_list : PSet X rSetL := by
  intro pins s σ H o i v ov iv u Q I ro ri rv h
  obtain ⟨p, xs, k, j, rfl, rfl, hp, hj, q⟩ := h
  cases ro
  obtain ⟨t, rfl⟩ := ri
  obtain ⟨its, n, r, ho, hz⟩ := I.lst hp
  obtain ⟨h1, h2, h3, h4⟩ := ixN_seq hj
  have hl := r.length
  have hn := line63
  have I' : Inv X pins σ (upd H p (.lst (xs.set j v))) { s with heap := s.heap.update p (Obj.mapSeq (·.setIfInBounds j u)) } :=
    I.lstUpd hp ho (mapSeq_set its n j u) (r.set rv j) (by rw [List.length_set]; exact hz) s.toks
  by_cases h0 : 0 ≤ k
  · have hk : k.toNat = j := by
      rw [seqIndex_of h0 h4] at h1
      exact Option.some.inj h1
    exact PySem.W.ki_setAt ho h0 (by omega) (by rw [List.size_toArray, ← hl]; exact h4) (by rw [hk]; exact ⟨_, I', q⟩)
  · have hk : (k + (its.toArray.size : Int)).toNat = j := by
      rw [seqIndex_neg (by omega) h3] at h1
      rw [List.size_toArray, ← hl]
      exact Option.some.inj h1
    exact PySem.W.ki_setBack ho (by omega) (by rw [List.size_toArray, ← hl]; exact h3) (by omega) (by rw [hk]; exact ⟨_, I', q⟩)
theorem slice_bounds (lo hi : Option Int) (n : Nat) : (sliceBounds lo hi none n).1 = ((HT.sIx n 0 lo : Nat) : Int) ∧ (sliceBounds lo hi none n).2.1 = ((HT.sIx n n hi : Nat) : Int) ∧ (sliceBounds lo hi none n).2.2 = 1 := by
  refine ⟨?_, ?_, rfl⟩
  · cases lo with
    | none => simp [sliceBounds, HT.sIx]
    | some i =>
      simp only [sliceBounds, HT.sIx, Option.getD_none, show (1 : Int) > 0 by decide, if_true]
      by_cases h : i < 0
      · simp only [h, if_true] <;> omega
      · simp only [h, if_false] <;> omega
  · cases hi with
    | none => simp [sliceBounds, HT.sIx]
    | some i =>
      simp only [sliceBounds, HT.sIx, Option.getD_none, show (1 : Int) > 0 by decide, if_true]
      by_cases h : i < 0
      · simp only [h, if_true] <;> omega
      · simp only [h, if_false] <;> omega
theorem slicePick_cut (its : List Value) (lo hi : Option Int) : slicePick its.toArray lo hi none = ((its.drop (HT.sIx its.length 0 lo)).take (HT.sIx its.length its.length hi - HT.sIx its.length 0 lo)).toArray := by
  obtain ⟨h1, h2, h3⟩ := slice_bounds lo hi its.toArray.size
  unfold slicePick
  rw [h1, h2, h3]
  simp only [sliceRange_one, pick_run, List.size_toArray] <;> rfl
def rSlL (K : PySem.W.Frag) : V → Option Int → Option Int → Hp → VK → Prop := fun x lo hi H Q => ∃ a xs, x = .ref a ∧ SqL K H a xs ∧ ∀ p, H p = none → Q (.ref p) (upd H p (.lst (cutV xs lo hi)))
theorem sl_list : SlR X (rSlL X.K) := by
  intro pins s σ H x v vl vu lo hi sl Q I rx hs pl pu h
  obtain ⟨a, xs, rfl, hx, q⟩ := h
  cases rx
  obtain ⟨its, r, ht, hz⟩ := I.list hx
  have hlen := r.length
  refine ⟨"list", _, slot_list_getitem.lookup, ht.isList.typeIs, ?_⟩
  refine wpAny_getItem_list_slice ht.isList hs pl pu .none (by simp) ?_ (by rw [List.size_toArray] <;> omega)
  rw [slicePick_cut, ← hlen]
  refine ⟨.ref s.heap.objs.size, _, I.laid (t' := s.toks) (o := .lst (cutV xs lo hi)) (fun b ob q => Heap.get?_push_of_some _ q) (Nat.le_refl _) ?_, rfl, q _ (I.hok.fresh (Nat.le_refl _))⟩
  exact ⟨Nat.le_trans (cutV_length xs lo hi) hz, _, 0, (r.drop (HT.sIx xs.length 0 lo)).take (HT.sIx xs.length xs.length hi - HT.sIx xs.length 0 lo), Heap.get?_push_size _ rfl⟩
def flatV : V → Bool
  | .non => true
  | .bl _ => true
  | .int _ => true
  | .str _ => true
  | _ => false
def eqV : V → V → Bool
  | .non, .non => true
  | .bl a, .bl b => a == b
  | .bl a, .int b => (if a then 1 else 0) == b
  | .int a, .bl b => a == (if b then 1 else 0)
  | .int a, .int b => a == b
  | .str a, .str b => a == b
  | _, _ => false
theorem eqAt_V {A : Around} {s : Shared} {y x : V} {u v : Value} (ry : RelV y u) (rx : RelV x v) (fy : flatV y = true) (fx : flatV x = true) : SeqAt.EqAt A s u v (eqV y x) := by
  cases y with
  | non =>
    cases ry
    cases x with
    | non => cases rx; exact SeqAt.EqAt.same _
    | bl b => cases rx; exact SeqAt.EqAt.none_bool b
    | int b => obtain ⟨t, rfl⟩ := rx; exact SeqAt.EqAt.none_int b t
    | str b => obtain ⟨t, rfl⟩ := rx; exact SeqAt.EqAt.none_str b t
    | _ => exact absurd (show false = true from fx) Bool.false_ne_true
  | bl a =>
    cases ry
    cases x with
    | non => cases rx; exact SeqAt.EqAt.bool_none a
    | bl b => cases rx; exact SeqAt.EqAt.bool_bool a b
    | int b => obtain ⟨t, rfl⟩ := rx; exact SeqAt.EqAt.bool_int a b t
    | str b => obtain ⟨t, rfl⟩ := rx; exact SeqAt.EqAt.bool_str a b t
    | _ => exact absurd (show false = true from fx) Bool.false_ne_true
  | int a =>
    obtain ⟨t', rfl⟩ := ry
    cases x with
    | non => cases rx; exact SeqAt.EqAt.int_none a t'
    | bl b => cases rx; exact SeqAt.EqAt.int_bool a t' b
    | int b => obtain ⟨t, rfl⟩ := rx; exact SeqAt.EqAt.int_int a t' b t
    | str b => obtain ⟨t, rfl⟩ := rx; exact SeqAt.EqAt.int_str a t' b t
    | _ => exact absurd (show false = true from fx) Bool.false_ne_true
  | str a =>
    obtain ⟨t', rfl⟩ := ry
    cases x with
    | non => cases rx; exact SeqAt.EqAt.str_none a t'
    | bl b => cases rx; exact SeqAt.EqAt.str_bool a t' b
    | int b => obtain ⟨t, rfl⟩ := rx; exact SeqAt.EqAt.str_int a t' b t
    | str b => obtain ⟨t, rfl⟩ := rx; exact SeqAt.EqAt.str_str a t' b t
    | _ => exact absurd (show false = true from fx) Bool.false_ne_true
  | _ => exact absurd (show false = true from fy) Bool.false_ne_true
def eqU (x : V) (u : Value) : Bool := match u with
  | .none => eqV .non x
  | .bool b => eqV (.bl b) x
  | .int i _ => eqV (.int i) x
  | .str z _ => eqV (.str z) x
  | _ => false
theorem eqU_of {x y : V} {u : Value} (r : RelV y u) (f : flatV y = true) : eqU x u = eqV y x := by
  cases y with
  | non => cases r; rfl
  | bl b => cases r; rfl
  | int i => obtain ⟨t, rfl⟩ := r; rfl
  | str z => obtain ⟨t, rfl⟩ := r; rfl
  | _ => exact absurd (show false = true from f) Bool.false_ne_true
theorem any_eqU {x : V} : ∀ {xs : List V} {us : List Value}, Vals xs us → xs.all flatV = true → us.any (eqU x) = xs.any fun y => eqV y x
  | _, _, .nil, _ => rfl
  | y :: xs, u :: us, .cons r t, f => by
    rw [List.all_cons, Bool.and_eq_true] at f
    rw [List.any_cons, List.any_cons, eqU_of r f.1, any_eqU t f.2]
theorem mem_eqAt {A : Around} {s : Shared} {x : V} {v : Value} (rx : RelV x v) (fx : flatV x = true) : ∀ {xs : List V} {us : List Value}, Vals xs us → xs.all flatV = true → ∀ u ∈ us, SeqAt.EqAt A s u v (eqU x u)
  | _, _, .nil, _ => fun u hu => by cases hu
  | y :: xs, u :: us, .cons r t, f => fun u' hu => by
    rw [List.all_cons, Bool.and_eq_true] at f
    rcases List.mem_cons.mp hu with rfl | hu
    · rw [eqU_of r f.1]; exact eqAt_V r rx f.1 fx
    · exact mem_eqAt rx fx t f.2 u' hu
def inV (x : V) (xs : List V) : Bool := xs.any fun y => eqV y x
def rIn (K : PySem.W.Frag) (neg : Bool) : R2 := fun x y H Q => ∃ p xs, y = .ref p ∧ (SqL K H p xs ∨ SqT K H p xs) ∧ flatV x = true ∧ xs.all flatV = true ∧ Q (.bl (if neg then !inV x xs else inV x xs)) H
theorem op_in_seq : OpR X (compareOp .In) (rIn X.K false) := by
  intro pins s σ H x y v u Q I rx ry h
  obtain ⟨p, xs, rfl, hq, fx, fs, q⟩ := h
  cases ry
  rcases hq with hq | hq
  · obtain ⟨its, r, pl, hz⟩ := I.list hq
    refine SeqAt.in_listAt (eqU x) pl.isList (fun w hw => mem_eqAt rx fx r fs w (by simpa using hw)) ⟨.bl _, H, I, rfl, ?_⟩
    rw [show its.toArray.any (eqU x) = its.any (eqU x) by simp, any_eqU r fs]
    exact q
  · obtain ⟨its, r, pl, hz⟩ := I.tuple hq
    refine SeqAt.in_tupleAt (eqU x) pl (fun w hw => mem_eqAt rx fx r fs w (by simpa using hw)) ⟨.bl _, H, I, rfl, ?_⟩
    rw [show its.toArray.any (eqU x) = its.any (eqU x) by simp, any_eqU r fs]
    exact q
theorem op_notIn_seq : OpR X (compareOp .NotIn) (rIn X.K true) := by
  intro pins s σ H x y v u Q I rx ry h
  obtain ⟨p, xs, rfl, hq, fx, fs, q⟩ := h
  cases ry
  rcases hq with hq | hq
  · obtain ⟨its, r, pl, hz⟩ := I.list hq
    refine SeqAt.notIn_listAt (eqU x) pl.isList (fun w hw => mem_eqAt rx fx r fs w (by simpa using hw)) ⟨.bl _, H, I, rfl, ?_⟩
    rw [show its.toArray.any (eqU x) = its.any (eqU x) by simp, any_eqU r fs]
    exact q
  · obtain ⟨its, r, pl, hz⟩ := I.tuple hq
    refine SeqAt.notIn_tupleAt (eqU x) pl (fun w hw => mem_eqAt rx fx r fs w (by simpa using hw)) ⟨.bl _, H, I, rfl, ?_⟩
    rw [show its.toArray.any (eqU x) = its.any (eqU x) by simp, any_eqU r fs]
    exact q
theorem call_len_seq : CallR X (.builtin "len") (fun xs H Q => ∃ p ys, xs = [.ref p] ∧ (SqL X.K H p ys ∨ SqT X.K H p ys) ∧ Q (.int ys.length) H) := by
  intro pins s σ H xs us Q I r h
  obtain ⟨p, ys, rfl, hq, q⟩ := h
  obtain ⟨u, rfl, rx⟩ := vals1 r
  cases rx
  have hn := line63
  rcases hq with hq | hq
  · obtain ⟨its, r', pl, hz⟩ := I.list hq
    have hlen := r'.length
    exact Calls.call_len_list pl.isList (by simp only [List.size_toArray] <;> omega) ⟨.int ys.length, H, I.tok _, ⟨s.toks + 1, by rw [List.size_toArray, hlen]⟩, q⟩
  · obtain ⟨its, r', pl, hz⟩ := I.tuple hq
    have hlen := r'.length
    exact len_tuple pl (by simp only [List.size_toArray] <;> omega) ⟨.int ys.length, H, I.tok _, ⟨s.toks + 1, by rw [List.size_toArray, hlen]⟩, q⟩
theorem CallR.or {f : Value} {r r' : List V → Hp → VK → Prop} (h : CallR X f r) (h' : CallR X f r') : CallR X f (fun xs H Q => r xs H Q ∨ r' xs H Q) := by
  intro pins s σ H xs us Q I rs q
  rcases q with q | q
  · exact h pins s σ H xs us Q I rs q
  · exact h' pins s σ H xs us Q I rs q
theorem call_list_of : CallR X (.type "list") (fun xs H Q => ∃ p ys, xs = [.ref p] ∧ (SqL X.K H p ys ∨ SqT X.K H p ys) ∧ ∀ l, H l = none → Q (.ref l) (upd H l (.lst ys))) := by
  intro pins s σ H xs us Q I r h
  obtain ⟨p, ys, rfl, hq, q⟩ := h
  obtain ⟨u, rfl, rx⟩ := vals1 r
  cases rx
  have fin : ∀ (its : List Value), Vals ys its → ys.length ≤ sizeLine → ∀ (h' : Heap) (c' : Nat), (∀ b o', s.heap.get? b = some o' → h'.get? b = some o') →
      h'.get? s.heap.objs.size = some { cls := .type "list", dict := none, data := .seq its.toArray c', slots := #[] } → EP X pins σ Q (.ref s.heap.objs.size) { s with heap := h' } := fun its r' hz h' c' kp e =>
    ⟨.ref s.heap.objs.size, _, I.laid (t' := s.toks) kp (Nat.le_refl _) (show ObjOk X.prog X.w _ h' _ (.lst ys) from ⟨hz, its, c', r', e⟩), rfl, q _ (I.hok.fresh (Nat.le_refl _))⟩
  rcases hq with hq | hq
  · obtain ⟨its, r', pl, hz⟩ := I.list hq
    have hlen := r'.length
    obtain ⟨o, ho, hc, n, hd⟩ := pl.isList
    exact call_list_seq p (.inl rfl) ho hc hd (fun h' c' kp e => fin its r' hz h' c' kp e) (by simp only [List.size_toArray] <;> omega)
  · obtain ⟨its, r', pl, hz⟩ := I.tuple hq
    have hlen := r'.length
    obtain ⟨o, ho, hc, n, hd⟩ := pl
    exact call_list_seq p (.inr rfl) ho hc hd (fun h' c' kp e => fin its r' hz h' c' kp e) (by simp only [List.size_toArray] <;> omega)
theorem call_tuple_of : CallR X (.type "tuple") (fun xs H Q => ∃ p ys, xs = [.ref p] ∧ ((SqL X.K H p ys ∧ ∀ l, H l = none → Q (.ref l) (upd H l (.tup ys))) ∨ (SqT X.K H p ys ∧ Q (.ref p) H))) := by
  intro pins s σ H xs us Q I r h
  obtain ⟨p, ys, rfl, h⟩ := h
  obtain ⟨u, rfl, rx⟩ := vals1 r
  cases rx
  rcases h with ⟨hq, q⟩ | ⟨hq, q⟩
  · obtain ⟨its, r', pl, hz⟩ := I.list hq
    have hlen := r'.length
    refine call_tuple_list pl.isList (fun h' kp => ?_) (by simp only [List.size_toArray] <;> omega)
    have I1 : Inv X pins σ H { s with heap := h' } := I.kept (t' := s.toks) kp
    have I2 : Inv X pins σ (upd H h'.objs.size (.tup ys)) { s with heap := h'.push { cls := .type "tuple", data := .seq its.toArray } } :=
      I1.laid (t' := s.toks) (fun b o e => Heap.get?_push_of_some _ e) (Nat.le_refl _) (show ObjOk X.prog X.w _ _ _ (.tup ys) from ⟨hz, its, r', ⟨_, Heap.get?_push_size _ rfl, rfl, _, rfl, rfl⟩⟩)
    exact ⟨.ref h'.objs.size, _, I2, rfl, q _ (I1.hok.fresh (Nat.le_refl _))⟩
  · obtain ⟨its, r', pl, hz⟩ := I.tuple hq
    exact call_tuple_same pl ⟨.ref p, H, I, rfl, q⟩
def tyV (K : PySem.W.Frag) (T : String) (x : V) (H : Hp) : Prop := match x with
  | .str _ => T = "str"
  | .int _ => T = "int"
  | .ref p => (T = "list" ∧ ∃ xs, SqL K H p xs) ∨ (T = "tuple" ∧ ((∃ o, K.lookup p = some o ∧ o.cls = .type "tuple" ∧ o.dict = none) ∨ ∃ xs, H p = some (.tup xs))) ∨
      (T = "dict" ∧ ((∃ kvs, H p = some (.dK kvs)) ∨ ∃ kvs, H p = some (.dT kvs))) ∨ (T = "set" ∧ ∃ S n, H p = some (.set S n))
  | _ => False
theorem tyV_is {pins : List (Addr × Obj)} {σ : St} {H : Hp} {s : Shared} {T : String} {x : V} {v : Value} (I : Inv X pins σ H s) (r : RelV x v) (ty : tyV X.K T x H) :
    s.TypeIs v T ∧ ∀ a, v = .ref a → ∃ ob, s.heap.get? a = some ob ∧ ob.dict = none := by
  cases x with
  | str z =>
    obtain ⟨t, rfl⟩ := r
    cases (show T = "str" from ty)
    exact ⟨typeIs_str s z t, fun _ e => nomatch e⟩
  | int i =>
    obtain ⟨t, rfl⟩ := r
    cases (show T = "int" from ty)
    exact ⟨typeIs_int s i t, fun _ e => nomatch e⟩
  | ref p =>
    cases r
    rcases ty with ⟨rfl, xs, hq⟩ | ⟨rfl, ⟨o, hk, hc, hd⟩ | ⟨xs, hx⟩⟩ | ⟨rfl, hk⟩ | ⟨rfl, S, n, hk⟩
    · obtain ⟨its, _, pl, _⟩ := I.list hq
      refine ⟨pl.isList.typeIs, fun a e => ?_⟩
      cases e
      obtain ⟨o, n, e, c, hd, _⟩ := pl
      exact ⟨o, e, hd⟩
    · refine ⟨⟨o, I.kIn p o hk, hc⟩, fun a e => ?_⟩
      cases e
      exact ⟨o, I.kIn _ o hk, hd⟩
    · obtain ⟨_, its, _, o, h1, h2, n, _, h3⟩ := I.hok p _ hx
      refine ⟨⟨o, h1, h2⟩, fun a e => ?_⟩
      cases e
      exact ⟨o, h1, h3⟩
    · have z : ∃ o, s.heap.get? p = some o ∧ o.ExactDict := by
        rcases hk with ⟨kvs, hk⟩ | ⟨kvs, hk⟩
        · obtain ⟨_, _, _, _, o, _, _, e, ex, _⟩ := I.hok p _ hk
          exact ⟨o, e, ex⟩
        · obtain ⟨_, _, _, _, o, _, _, e, ex, _⟩ := I.hok p _ hk
          exact ⟨o, e, ex⟩
      obtain ⟨o, e, ex⟩ := z
      refine ⟨⟨o, e, ex.1⟩, fun a e2 => ?_⟩
      cases e2
      exact ⟨o, e, ex.2.1⟩
    · obtain ⟨o, _, _, _, e, ex, _⟩ := I.hok p _ hk
      refine ⟨⟨o, e, ex.1⟩, fun a e2 => ?_⟩
      cases e2
      exact ⟨o, e, ex.2.1⟩
  | _ => exact False.elim ty
def tBM0 (K : PySem.W.Frag) (T : String) (r : V → List V → Hp → VK → Prop) (to : TE) : TE := fun σ H Q => to σ H fun x H1 => tyV K T x H1 ∧ r x [] H1 Q
def tBM (K : PySem.W.Frag) (T : String) (r : V → List V → Hp → VK → Prop) (to : TE) (t : TA) : TE := fun σ H Q => to σ H fun x H1 => tyV K T x H1 ∧ t σ H1 fun xs H2 => r x xs H2 Q
variable {o e : Expr} {es : List Expr} {to : TE} {t : TA} {name : Str} {apos cpos : Pos} {T id : String} {r : V → List V → Hp → VK → Prop}
theorem pe_bm0 (pa : PlainAttrs T) (slot : Slot T name id) (hty : typeOf (.builtin id) = pure (.type "method_descriptor")) (hm : MtR X id r) (ho : PE X o to)
    (hbase : attributeBase o name X.env (eval o X.env) = eval o X.env := by rfl) (hline : (apos.endLine == cpos.line) = true := by rfl) : PE X (.Call (.Attribute o name apos) [] [] cpos) (tBM0 X.K T r to) := by
  intro pins s σ H Q I h
  refine wpAny_Call_method0_late hbase hline (thn (ho pins s σ H _ I h) fun v s1 ⟨x, H1, I1, r1, ty, q1⟩ => ?_)
  obtain ⟨h1, h2⟩ := tyV_is I1 r1 ty
  exact ⟨T, id, pa, slot, hty, h1, h2, Calls.callWith_builtin rfl (PySem.evalArgs_none (hm pins s1 σ H1 x [] v [] Q I1 r1 .nil q1))⟩
theorem pe_bm (pa : PlainAttrs T) (slot : Slot T name id) (hty : typeOf (.builtin id) = pure (.type "method_descriptor")) (hm : MtR X id r) (ho : PE X o to) (ha : PA X (e :: es) t)
    (hbase : attributeBase o name X.env (eval o X.env) = eval o X.env := by rfl)
    (hfew : ((backTo cpos (starEach (e :: es) X.env)).all (fun x => !x.1) && (backToKw cpos (keywordEach [] X.env)).all (fun x => x.1.isSome)
      && decide ((e :: es).length + ([] : List Keyword).length + (if ([] : List Keyword).isEmpty then 0 else 1) < 30)) = true := by rfl)
    (hline : (apos.endLine == cpos.line) = true := by rfl) (hs : starEach (e :: es) X.env = (false, eval e X.env) :: starEach es X.env := by rfl) (hplain : (backTo cpos (starEach es X.env)).any (·.1) = false := by rfl) :
    PE X (.Call (.Attribute o name apos) (e :: es) [] cpos) (tBM X.K T r to t) := by
  intro pins s σ H Q I h
  refine wpAny_Call_method_late hbase hfew hline rfl (thn (ho pins s σ H _ I h) fun v s1 ⟨x, H1, I1, r1, ty, q1⟩ => ?_)
  obtain ⟨h1, h2⟩ := tyV_is I1 r1 ty
  refine ⟨T, id, pa, slot, hty, h1, h2, ?_⟩
  have hA := ha cpos pins s1 σ H1 _ I1 q1
  rw [hs] at hA ⊢
  refine Calls.callWith_builtin (by show (false || (backTo cpos (starEach es X.env)).any (·.1)) = false; rw [hplain] <;> rfl) (Calls.evalArgs_plain ?_)
  exact thn hA fun us s2 ⟨vs, H2, I2, r2, q2⟩ => hm pins s2 σ H2 x vs v us Q I2 r1 r2 q2
/- xs.append(e), list.index on a module's tuple .. are MtR facts of 06m -/
end
end L2
namespace L2
open PySem PySem.Spec PyProof.Rows
def MtM (X : Cx) (id : String) (r : V → List V → Hp → VK → Prop) : Prop :=
  ∀ (pins : List (Addr × Obj)) (s : Shared) (σ : St) (H : Hp) (x : V) (xs : List V) (v : Value) (us : List Value) (Q : VK), Inv X pins σ H s → RelV x v → Vals xs us → r x xs H Q →
    wpAny (model X.prog X.w) X.A (call (.builtin id) (v :: us)) (EP X pins σ Q) X.xe s
theorem Vals.one : ∀ {x : V} {us : List Value}, Vals [x] us → ∃ u, us = [u] ∧ RelV x u
  | _, _, .cons r .nil => ⟨_, rfl, r⟩
theorem Vals.two : ∀ {x y : V} {us : List Value}, Vals [x, y] us → ∃ u v, us = [u, v] ∧ RelV x u ∧ RelV y v
  | _, _, _, .cons r (.cons q .nil) => ⟨_, _, rfl, r, q⟩
theorem Vals.zero : ∀ {us : List Value}, Vals [] us → us = []
  | _, .nil => rfl
theorem Vals.dropLast {xs : List V} {us : List Value} (h : Vals xs us) : Vals xs.dropLast us.dropLast := by
  induction h with
  | nil => exact .nil
  | cons r t ih =>
    cases t with
    | nil => exact .nil
    | cons q t' => exact .cons r ih
theorem Vals.eraseIdx : ∀ {xs : List V} {us : List Value} (i : Nat), Vals xs us → Vals (xs.eraseIdx i) (us.eraseIdx i)
  | _, _, _, .nil => .nil
  | _, _, 0, .cons _ t => t
  | _, _, i + 1, .cons r t => .cons r (Vals.eraseIdx i t)
theorem Vals.reverse {xs : List V} {us : List Value} (h : Vals xs us) : Vals xs.reverse us.reverse := by
  induction h with
  | nil => exact .nil
  | cons r t ih => rw [List.reverse_cons, List.reverse_cons]; exact Vals.append ih (.cons r .nil)
theorem Vals.rep {xs : List V} {us : List Value} (h : Vals xs us) : ∀ k : Nat, Vals (List.replicate k xs).flatten (List.replicate k us).flatten
  | 0 => .nil
  | k + 1 => by
    rw [List.replicate_succ, List.replicate_succ, List.flatten_cons, List.flatten_cons]
    exact Vals.append h (Vals.rep h k)
theorem erase_last {α : Type} (l : List α) : l.eraseIdx (l.length - 1) = l.dropLast := by
  induction l with
  | nil => rfl
  | cons a r ih =>
    cases r with
    | nil => rfl
    | cons b r =>
      have e : (a :: b :: r).length - 1 = ((b :: r).length - 1) + 1 := by
        have h1 : (a :: b :: r).length = r.length + 2 := rfl
        have h2 : (b :: r).length = r.length + 1 := rfl
        omega
      rw [e, List.eraseIdx_cons_succ, ih]
      all_goals rfl
theorem foldl_rep (its : List Value) : ∀ (k : Nat) (acc : List Value),
    List.foldl (fun x1 x2 => x1 ++ x2) acc.toArray (List.replicate k its.toArray) = (acc ++ (List.replicate k its).flatten).toArray
  | 0, acc => by simp
  | k + 1, acc => by
    have e : acc.toArray ++ its.toArray = (acc ++ its).toArray := by simp
    have e2 : (acc ++ its) ++ (List.replicate k its).flatten = acc ++ (List.replicate (k + 1) its).flatten := by
      rw [List.replicate_succ, List.flatten_cons, List.append_assoc]
    rw [← e2, ← foldl_rep its k (acc ++ its), ← e, List.replicate_succ, List.foldl_cons]
section
variable {X : Cx} {pins : List (Addr × Obj)} {σ : St} {H : Hp} {s : Shared} {l b : Addr} {xs ys zs : List V}
theorem Inv.lset {its its' : List Value} {n : Nat} {f : Array Value → Array Value} {t' : Nat} (I : Inv X pins σ H s) (hH : H l = some (.lst xs))
    (e : s.heap.get? l = some { cls := .type "list", data := .seq its.toArray n }) (hf : f its.toArray = its'.toArray) (hv : Vals ys its') (hz : ys.length ≤ sizeLine) :
    Inv X pins σ (upd H l (.lst ys)) { s with heap := s.heap.update l (Obj.mapSeq f), toks := t' } := by
  have q := PySem.IsL.update e f
  rw [hf] at q
  refine I.write (x := l) (e := l) (by rw [hH]; exact trivial) (.inl rfl) (fun b' u hb hu => (Heap.get?_update_other s.heap (Obj.mapSeq f) (Ne.symm hb)).trans hu) ⟨_, q⟩ ?_
  exact ⟨hz, its', _, hv, q⟩
theorem Inv.lnew {its : List Value} {t' : Nat} (I : Inv X pins σ H s) (hv : Vals ys its) (hz : ys.length ≤ sizeLine) :
    Inv X pins σ (upd H s.heap.objs.size (.lst ys)) { s with heap := s.heap.push { cls := .type "list", data := .seq its.toArray }, toks := t' } :=
  I.laid (fun _ _ q => Heap.get?_push_of_some _ q) (Nat.le_refl _) ⟨hz, its, 0, hv, Heap.get?_push_size _ rfl⟩
theorem Inv.fresh (I : Inv X pins σ H s) : H s.heap.objs.size = none := I.hok.fresh (Nat.le_refl _)
theorem Inv.lstM (I : Inv X pins σ H s) (hH : H l = some (.lst xs)) : xs.length ≤ sizeLine ∧ ∃ (its : List Value) (n : Nat), Vals xs its ∧ xs.length = its.length ∧ s.heap.get? l = some { cls := .type "list", data := .seq its.toArray n } := by
  obtain ⟨z, its, n, r, e⟩ := I.hok l _ hH
  exact ⟨z, its, n, r, r.length, e⟩
theorem notLongL {n : Nat} (h : n ≤ sizeLine) : Builtin.List.listTooLong n = false := by
  unfold Builtin.List.listTooLong
  exact decide_eq_false (by omega)
end
section
variable {X : Cx}
def rAppend : V → List V → Hp → VK → Prop := fun x vs H Q => ∃ l xs y, x = .ref l ∧ vs = [y] ∧ H l = some (.lst xs) ∧ xs.length < sizeLine ∧ Q .non (upd H l (.lst (xs ++ [y])))
theorem mt_append : MtM X "list.append" rAppend := by
  intro pins s σ H x vs v us Q I rx rv h
  obtain ⟨l, xs, y, rfl, rfl, hH, hz, q⟩ := h
  cases rx
  obtain ⟨u, rfl, ru⟩ := rv.one
  obtain ⟨z, its, n, r, hl, e⟩ := I.lstM hH
  refine call_meets F.slot_list_append ⟨_, e, rfl⟩ F.entry_list_append (F.args_list_append_2 _ _) (PySem.list_append l its.toArray n u (by rw [List.size_toArray]; omega)) ⟨e, ?_⟩
  refine ⟨.non, _, I.lset (its' := its ++ [u]) hH e (by simp) (r.append (.cons ru .nil)) ?_, rfl, q⟩
  rw [List.length_append, List.length_singleton]
  omega
def rExtend : V → List V → Hp → VK → Prop := fun x vs H Q => ∃ l b xs zs, x = .ref l ∧ vs = [.ref b] ∧ H l = some (.lst xs) ∧ H b = some (.lst zs) ∧ xs.length + zs.length ≤ sizeLine ∧ Q .non (upd H l (.lst (xs ++ zs)))
theorem mt_extend : MtM X "list.extend" rExtend := by
  intro pins s σ H x vs v us Q I rx rv h
  obtain ⟨l, b, xs, zs, rfl, rfl, hH, hB, hz, q⟩ := h
  cases rx
  obtain ⟨u, rfl, ru⟩ := rv.one
  cases ru
  obtain ⟨z, its, n, r, hl, e⟩ := I.lstM hH
  obtain ⟨z2, its2, n2, r2, hl2, e2⟩ := I.lstM hB
  have hsz : its.toArray.size + its2.toArray.size ≤ sizeLine := by rw [List.size_toArray, List.size_toArray]; omega
  have hlong : ¬ (!its.toArray.isEmpty && Builtin.List.listTooLong (its.toArray.size + its2.toArray.size)) = true := by
    rw [notLongL hsz, Bool.and_false]
    exact Bool.false_ne_true
  refine call_meets F.slot_list_extend ⟨_, e, rfl⟩ F.entry_list_extend (F.args_list_extend_2 _ _)
    (AutoSeq1.list_extend_list_list_0 l its.toArray n b its2.toArray n2 hlong (by rw [List.size_toArray]; omega) (by omega)) ⟨e, e2, ?_⟩
  refine ⟨.non, _, I.lset (its' := its ++ its2) hH e (by simp) (r.append r2) ?_, rfl, q⟩
  rw [List.length_append]
  omega
def rPop : V → List V → Hp → VK → Prop := fun x vs H Q => ∃ l xs y, x = .ref l ∧ vs = [] ∧ H l = some (.lst xs) ∧ xs[xs.length - 1]? = some y ∧ Q y (upd H l (.lst xs.dropLast))
theorem mt_pop : MtM X "list.pop" rPop := by
  intro pins s σ H x vs v us Q I rx rv h
  obtain ⟨l, xs, y, rfl, rfl, hH, hy, q⟩ := h
  cases rx
  have hus := rv.zero
  subst hus
  obtain ⟨z, its, n, r, hl, e⟩ := I.lstM hH
  obtain ⟨u, hu, ru⟩ := r.get hy
  have hy' : its.toArray[its.toArray.size - 1]? = some u := by
    show its.toArray[its.length - 1]? = some u
    rw [← Array.getElem?_toList, ← hl]
    exact hu
  refine call_meets F.slot_list_pop ⟨_, e, rfl⟩ F.entry_list_pop (F.args_list_pop_1 _) (MeetsSeq.list_pop_last l its.toArray n u hy' (by rw [List.size_toArray]; omega)) ⟨e, ?_⟩
  refine ⟨y, _, I.lset (its' := its.dropLast) hH e ?_ r.dropLast ?_, ru, q⟩
  · show its.toArray.eraseIdxIfInBounds (its.toArray.size - 1) = its.dropLast.toArray
    rw [List.size_toArray, List.eraseIdxIfInBounds_toArray, erase_last]
  · rw [List.length_dropLast]
    omega
def rCat : R2 := fun x y H Q => ∃ l b xs zs, x = .ref l ∧ y = .ref b ∧ H l = some (.lst xs) ∧ H b = some (.lst zs) ∧ xs.length + zs.length ≤ sizeLine ∧ ∀ p, H p = none → Q (.ref p) (upd H p (.lst (xs ++ zs)))
theorem op_cat : OpR X (binaryOp .Add) rCat := by
  intro pins s σ H x y v u Q I rx ry h
  obtain ⟨l, b, xs, zs, rfl, rfl, hH, hB, hz, q⟩ := h
  cases rx
  cases ry
  obtain ⟨z, its, n, r, hl, e⟩ := I.lstM hH
  obtain ⟨z2, its2, n2, r2, hl2, e2⟩ := I.lstM hB
  refine PySem.P.add_list e e2 ?_ (by rw [List.size_toArray, List.size_toArray]; omega)
  have ea : its.toArray ++ its2.toArray = (its ++ its2).toArray := by simp
  rw [ea]
  exact ⟨.ref _, _, I.lnew (t' := s.toks) (r.append r2) (by rw [List.length_append]; omega), rfl, q _ I.fresh⟩
def rRep : R2 := fun x y H Q => ∃ l k xs, x = .ref l ∧ y = .int k ∧ H l = some (.lst xs) ∧ -(2 ^ 63) ≤ k ∧ k < 2 ^ 63 ∧ xs.length * k.toNat ≤ sizeLine ∧
  ∀ p, H p = none → Q (.ref p) (upd H p (.lst (List.replicate k.toNat xs).flatten))
theorem len_rep {α : Type} (xs : List α) (k : Nat) : (List.replicate k xs).flatten.length = k * xs.length := by
  induction k with
  | zero => simp
  | succ k ih => rw [List.replicate_succ, List.flatten_cons, List.length_append, ih, Nat.succ_mul, Nat.add_comm]
theorem op_rep : OpR X (binaryOp .Mult) rRep := by
  intro pins s σ H x y v u Q I rx ry h
  obtain ⟨l, k, xs, rfl, rfl, hH, h1, h2, hz, q⟩ := h
  cases rx
  obtain ⟨t, rfl⟩ := ry
  obtain ⟨z, its, n, r, hl, e⟩ := I.lstM hH
  have hlen : its.toArray.size * k.toNat ≤ sizeLine := by rw [List.size_toArray, ← hl]; exact hz
  have hcap : ¬ its.toArray.size * k.toNat > (2 ^ 63 - 1) / 8 := by
    have : (sizeLine : Nat) ≤ (2 ^ 63 - 1) / 8 := by decide
    omega
  have hfit : ¬ (!Builtin.List.listFitsIndex k) = true := by
    rw [fitsIndex_both h1 h2]
    exact Bool.false_ne_true
  have hlong : ¬ Builtin.List.listTooLong (its.toArray.size * k.toNat) = true := by
    rw [notLongL hlen]
    exact Bool.false_ne_true
  have hnew : List.foldl (fun x1 x2 => x1 ++ x2) #[] (List.replicate (if its.toArray.isEmpty = true then 0 else k.toNat) its.toArray) = (List.replicate k.toNat its).flatten.toArray := by
    have f0 : ∀ m : Nat, List.foldl (fun x1 x2 => x1 ++ x2) #[] (List.replicate m its.toArray) = (List.replicate m its).flatten.toArray := fun m => by
      have := foldl_rep its m []
      rw [List.nil_append] at this
      exact this
    rw [f0]
    cases its with
    | nil => simp
    | cons a r' => rw [if_neg (by simp)]
  refine wpAny_binaryOp_repeat_ref (T := "list") (U := "int") (by decide) ⟨_, e, rfl⟩ (fun s' => typeIs_int s' k t) noFill_list_mul F.fills_int_mul F.slot_int_rmul repeat_list F.slot_int_index.lookup
    (call_meets F.slot_int_rmul (typeIs_int s k t) F.entry_int_rmul (F.args_int_rmul_2 _ _) (int___rmul___int_list k t l its.toArray n)
      ⟨e, rfl, ⟨_, e, rfl⟩, call_meets F.slot_list_mul ⟨_, e, rfl⟩ F.entry_list_mul (F.args_list_mul_2 _ _) (AutoListH.list___mul___list_int_3 l its.toArray n k t hfit hcap hlong) ⟨e, ?_⟩⟩)
  rw [hnew]
  exact ⟨.ref _, _, I.lnew (t' := s.toks) (r.rep k.toNat) (by rw [len_rep, Nat.mul_comm]; exact hz), rfl, q _ I.fresh⟩
end
section
variable {prog : Program} {w : World} {A : Around} {E : Value → Shared → Prop} {s : Shared}
set_option maxRecDepth 100000 in
end
section
variable {X : Cx}
end
end L2
namespace Att
open PySem PySem.W PySem.Calls PyProof.Rows
theorem ints_of_wellAll {P : Params} {h : Heap} : ∀ (ns : List Int) (vs : List Value), WellAll P h vs (ns.map WData.int) → IntsAre vs ns := by
  intro ns
  induction ns with
  | nil =>
    intro vs w
    rw [List.map_nil] at w
    cases w
    exact .nil
  | cons n ns ih =>
    intro vs w
    rw [List.map_cons] at w
    cases w with
    | cons a b =>
      cases a
      exact .cons _ _ (ih _ b)
theorem script_of {l : OpenLaw} {n : Nat} (hn : l.most = some n) {P : Params} {h : Heap} {args : List WData} {vals : List Value}
    (hpre : l.row.toRowW.claim.pre args = true) (hwl : WellAll P h vals args) :
    ∃ a vs ns, vals = [Value.ref a] ∧ args = [WData.list (ns.map WData.int)] ∧ h.get? a = some { cls := .type "list", data := .seq vs.toArray } ∧ IntsAre vs ns ∧ ns.length ≤ n := by
  have hsh : WShape.hasAll [] args [.list .int] = true := (pre_splitW hpre).1
  have hc : l.pre.holds [] { args := args } = true := (pre_splitW hpre).2
  obtain ⟨d, r, rfl, h1, h2⟩ := hasAllW_cons hsh
  obtain rfl := hasAllW_nil h2
  obtain ⟨xs, rfl, h3⟩ := hasW_list h1
  obtain ⟨ns, rfl⟩ := items_int h3
  have hlen : ns.length ≤ n := by
    unfold OpenLaw.pre at hc
    have h4 : (WTm.not (.lt (.lit (.int (n : Int))) (.len (.arg 0)))).holds [] { args := [.list (ns.map .int)] } = true := by
      have h4 := (holds_andW hc).1
      rw [hn] at h4
      exact h4
    have h5 := condW_of h4 (w_not (w_lt w_lit (w_len_list (w_arg rfl))))
    rw [List.length_map] at h5
    refine Nat.le_of_not_lt fun q => ?_
    have q' : (n : Int) < ((ns.length : Nat) : Int) := by omega
    first
      | (rw [decide_eq_true q'] at h5; exact absurd h5 (by decide))
      | (simp at h5; omega)
  cases hwl with
  | cons w1 w2 =>
    cases w2
    cases w1 with
    | list ho hall => exact ⟨_, _, ns, rfl, rfl, ho, ints_of_wellAll ns _ hall, hlen⟩
theorem post_true (l : OpenLaw) (args : List WData) : l.row.toRowW.claim.post args (.bool true) args = true :=
  postW_of (r := l.row.toRowW) (X := (true == true))
    (show WShape.has [] (.bool true) .bool = true by first | rfl | decide | simp [WShape.has, WShape.arms, WShape.armsAll])
    (show (WTm.eq .res (.lit (.bool true))).value [] { args := args, res := some (.bool true), after := args } = some (.bool (true == true)) from w_eq_bool (w_res rfl) w_lit) rfl
theorem attach_call {l : OpenLaw} {n : Nat} {q : Program} {loose : List Str} {XP : (Str → Option Value) → Heap → Prop} {YP : World → Heap → Prop} {d : DefRec}
    (hn : l.most = some n) (hdf : d.params.defaults = [])
    (call : ∀ (w : World) (s₀ s₁ : Shared) (mg mb : Str → Option Value) (fa : Addr) (o : Obj) (pm cd doc : Value) (a : Addr) (vs : List Value) (ns : List Int),
      Ground q loose [] XP w s₀ mg mb s₁.heap → YP w s₁.heap →
      s₁.heap.get? fa = some o → o.data = .func (docDef d.name d.params d.body d.scope pm cd doc) → s₁.heap.CodeRec cd d.name → mg d.name = some (.ref fa) →
      s₁.heap.get? a = some { cls := .type "list", data := .seq vs.toArray } → IntsAre vs ns → ns.length ≤ n → s₁.gens = #[] →
      codeAny (model l.prog w) callerA (.call (.ref fa) ⟨[.ref a], []⟩) (fun r s' => r = .ok (.ret (.bool true)) ∧ OldK s₁.heap s'.heap ∧ s'.os = s₁.os ∧ AllBare s'.gens) s₁) :
    WalkO q loose XP YP l.row.toRowW d [] (fun f vs => PySem.call f vs) := by
  intro w s₀ s₁ mg mb G Y fa o pm cd doc dV kV ho hd hcd hD hmg hg args vals as hpre hlay hrd hwl hlo
  obtain rfl : dV = .none := Dflts.none hD hdf
  obtain rfl : kV = .none := Dflts.noKw hD
  obtain ⟨a, vs, ns, rfl, rfl, hobj, hints, hlen⟩ := script_of hn hpre hwl
  refine enter_call (codeAny_mono (call w s₀ s₁ mg mb fa o pm cd doc a vs ns G Y ho (fd_plain hd) hcd hmg hobj hints hlen hg) fun r s' hq => ?_)
  obtain ⟨rfl, h2, h3, h4⟩ := hq
  exact ⟨.inl ⟨.bool true, .bool true, [], rfl, fun _ => rfl, .bool true, post_true l _, fun _ => ⟨List.Pairwise.nil, fun _ hm => (nomatch hm)⟩⟩, h2, h3, h4⟩
section
variable {prog : Program} {w : World} {A : Around} {E : Value → Shared → Prop} {s : Shared} {K : Frag}
def ledger (h : Heap) (L d : Addr) : List (Addr × Obj) := (List.range h.objs.size).filterMap fun a => if a = L ∨ a = d then none else (h.get? a).map fun o => (a, o)
end
end Att
namespace L2
open PySem PySem.Spec PyProof.Rows
theorem vals_ints : ∀ {vs : List Value} {ns : List Int}, IntsAre vs ns → Vals (ns.map V.int) vs
  | _, _, .nil => .nil
  | _, _, .cons n t h => .cons ⟨t, rfl⟩ (vals_ints h)
def Only (H : Hp) : Prop := ∀ b, H b = none ∨ ∃ o xs, H b = some (.frz o (.lst xs))
theorem law_call {P : Program} {w : World} {K : PySem.W.Frag} {mg mb : Str → Option Value} {CX : CXT} {k : Nat} {fa a : Addr} {fd : FuncData} {x : Str} {sp : Sp} {s₁ : Shared} {vs : List Value} {ns : List Int}
    (KX : K.In s₁.heap) (hns : s₁.heap.Ns mainGlobals mg) (hb : s₁.heap.Ns builtinsNs mb) (hbb : ∀ x : Str, x ≠ "__name__" → mb x = bootBuiltins x) (hlim : s₁.heap.NoLimit) (hg : s₁.gens = #[])
    (ha : s₁.heap.get? a = some { cls := .type "list", data := .seq vs.toArray }) (hi : IntsAre vs ns) (hl : ns.length ≤ sizeLine) (hr : Room k callerA)
    (F : ∀ base : Heap, K.In base → base.Ns mainGlobals mg → FnOk P w K mg base CX k fa fd [x] sp) (hbind : ∀ (s : Shared) (u : Value), BindsTo s fd ⟨[u], []⟩ [(x, u)])
    (hsp : ∀ H : Hp, Only H → SqL K H a (ns.map V.int) → sp [.ref a] H (fun v _ => v = .bl true) fun _ _ _ => False)
    (hCX : ∀ H e s', CX [] H s₁ (fun _ _ _ => False) e s' → False) :
    codeAny (model P w) callerA (.call (.ref fa) ⟨[.ref a], []⟩) (fun r s' => r = .ok (.ret (.bool true)) ∧ OldK s₁.heap s'.heap ∧ s'.os = s₁.os ∧ AllBare s'.gens) s₁ := by
  have rv := vals_ints hi
  have lenV := hi.length
  have core : ∀ H : Hp, Only H → SqL K H a (ns.map V.int) → HOk P w H s₁.heap → (∀ b, H b ≠ none → b = a) → (H a ≠ none → K.lookup a = none) →
      codeAny (model P w) callerA (.call (.ref fa) ⟨[.ref a], []⟩) (fun r s' => r = .ok (.ret (.bool true)) ∧ OldK s₁.heap s'.heap ∧ s'.os = s₁.os ∧ AllBare s'.gens) s₁ := by
    intro H hO hS hok hA hK
    have base_of : ∀ {b : Addr} {o : Obj}, s₁.heap.get? b = some o → H b = none → (hidT s₁.heap H).get? b = some o := fun e n => hidT_get e n
    have noA : ∀ {b : Addr} {o : Obj} {es : Array DictEntry} {ep : Nat}, s₁.heap.get? b = some o → o.data = .dict es ep → H b = none := fun {b o es ep} e d => by
      cases q : H b with
      | none => rfl
      | some u =>
        have e' : b = a := hA b (by rw [q]; simp)
        subst e'
        rw [ha] at e; cases e
        have d' : Data.seq vs.toArray _ = Data.dict es ep := d
        cases d'
    have nsK : ∀ {b : Addr} {m : Str → Option Value}, s₁.heap.Ns b m → (hidT s₁.heap H).Ns b m := fun {b m} ⟨o, es, ep, e, d, r⟩ => ⟨o, es, ep, base_of e (noA e d), d, r⟩
    have hKb : K.In (hidT s₁.heap H) := fun b o e => base_of (KX b o e) (by
      cases q : H b with
      | none => rfl
      | some u =>
        have e' : b = a := hA b (by rw [q]; simp)
        subst e'
        rw [hK (by rw [q]; simp)] at e; cases e)
    have hM : Mod K mg (hidT s₁.heap H) := ⟨hKb, nsK hns, ⟨mb, nsK hb, hbb⟩, let ⟨mc, h1, h2⟩ := hlim; ⟨mc, nsK h1, h2⟩⟩
    have e0 : Env0 P w K mg (hidT s₁.heap H) callerA [] s₁ H := ⟨rfl, hM, fun b o e => of_hidT e, Nat.le_of_eq (hidT_size _ _), trivial, fun b hb => absurd (show b ∈ ([] : List Addr) from hb) (by simp), hok, .of_eq hg⟩
    refine codeAny_mono ((F _ hKb (nsK hns)).run callerA [] s₁ H ⟨[.ref a], []⟩ [.ref a] [.ref a] _ _ hr e0 (hbind s₁ (.ref a)) (.cons rfl .nil) (hsp H hO hS)) fun r s' h => ?_
    cases r with
    | error e => exact (hCX H e s' h).elim
    | ok fl =>
      cases fl with
      | next => exact False.elim h
      | brk => exact False.elim h
      | cont => exact False.elim h
      | ret u =>
        obtain ⟨v, H', os, bare, un, hok', r', q⟩ := h
        have q' : v = .bl true := q
        subst q'
        obtain rfl : u = Value.bool true := r'
        refine ⟨rfl, OldK.of_keep fun b o e => ?_, os, bare⟩
        cases q : H b with
        | none => exact un.keep b o e q (by intro z; exact absurd (show b ∈ ([] : List Addr) from z) (by simp)) (by simp)
        | some u =>
          rcases hO b with z | ⟨ob, xs, z⟩
          · rw [q] at z; cases z
          · have z2 := un.frzs b ob _ z
            obtain ⟨e1, _⟩ := hok b _ z
            obtain ⟨e2, _⟩ := hok' b _ z2
            rw [e] at e1; cases e1
            exact e2
  cases hk : K.lookup a with
  | some o =>
    have e := KX a o hk
    rw [ha] at e
    cases e
    refine core (fun _ => none) (fun _ => .inl rfl) (.inr ⟨_, vs.toArray, _, hk, rfl, rfl, rfl, by rw [List.size_toArray, lenV]; exact hl, by simpa using rv⟩) (fun b u z => by have z' : (none : Option HO) = some u := z; cases z') (fun b z => absurd rfl z) fun z => absurd rfl z
  | none =>
    refine core (fun b => if b = a then some (.frz { cls := .type "list", data := .seq vs.toArray } (.lst (ns.map V.int))) else none) (fun b => ?_) (.inl (.inr ⟨{ cls := .type "list", data := .seq vs.toArray }, if_pos rfl⟩)) (fun b u z => ?_) (fun b z => ?_) fun _ => hk
    · by_cases hb : b = a
      · exact .inr ⟨_, _, if_pos hb⟩
      · exact .inl (if_neg hb)
    · by_cases hb : b = a
      · have z' := (if_pos hb).symm.trans z
        cases z'
        subst hb
        exact ⟨ha, by rw [List.length_map]; exact hl, vs, _, rv, ha⟩
      · have z' := (if_neg hb).symm.trans z
        cases z'
    · by_cases hb : b = a
      · exact hb
      · exact absurd (if_neg hb) z
end L2
namespace L2
open PySem PySem.Spec PyProof.Rows
abbrev KOf {K : PySem.W.Frag} {h : Heap} (_ : K.In h) : PySem.W.Frag := K
theorem walk_of {l : PySem.W.OpenLaw} {n k : Nat} {q : Program} {loose : List Str} {XP : (Str → Option Value) → Heap → Prop} {YP : World → Heap → Prop} {d : DefRec} {K : Params → PySem.W.Frag} {CX : World → CXT} {sp : World → Sp} {x : Str}
    (hn : l.most = some n) (hn2 : n ≤ sizeLine) (hdf : d.params.defaults = []) (hr : Room k callerA)
    (hY : ∀ (w : World) (h : Heap), YP w h → (K w.params).In h)
    (F : ∀ (w : World) (mg : Str → Option Value) (fa : Addr) (h : Heap), (K w.params).In h → h.Ns mainGlobals mg → mg d.name = some (.ref fa) →
      ∃ fd : FuncData, (∀ (s : Shared) (u : Value), BindsTo s fd ⟨[u], []⟩ [(x, u)]) ∧
        ∀ base : Heap, (K w.params).In base → base.Ns mainGlobals mg → FnOk l.prog w (K w.params) mg base (CX w) k fa fd [x] (sp w))
    (hsp : ∀ (w : World) (H : Hp) (a : Addr) (ns : List Int), ns.length ≤ n → Only H → SqL (K w.params) H a (ns.map V.int) → sp w [.ref a] H (fun v _ => v = .bl true) fun _ _ _ => False)
    (hCX : ∀ (w : World) (H : Hp) (s : Shared) (e : Value) (s' : Shared), CX w [] H s (fun _ _ _ => False) e s' → False) :
    PySem.W.WalkO q loose XP YP l.row.toRowW d [] (fun f vs => PySem.call f vs) := by
  refine Att.attach_call hn hdf fun w s₀ s₁ mg mb fa o pm cd doc a vs ns G Y ho hd hcd hmg hobj hints hlen hg => ?_
  have KX := hY w _ Y
  obtain ⟨fd, hb, hF⟩ := F w mg fa _ KX G.T.g hmg
  exact law_call KX G.T.g G.T.b G.T.builtins G.T.nolimit hg hobj hints (Nat.le_trans hlen hn2) hr hF hb (fun H hO hS => hsp w H a ns hlen hO hS) fun H e s' => hCX w H s₁ e s'
end L2
/- THE LAST THEOREM (shape; LID, My.* are yours):
   My.Adr: a structure of the addresses that your layer names (classes, functions); My.Txt K t: a structure (Prop) of the equations over K;
   My.txt_mk : {K} {implicit addresses ..} (e1 : nsIn K mainGlobals "law" = some (some (.ref f))) (e2 : K.lookup f = some ⟨oc, od, .func (fnOf "law" "law" params body scope dV kV doc pm an cdv ct), sl⟩) (e3 : codeIn K cdv "law" = true) .. : ∃ t, My.Txt K t
set_option maxRecDepth 100000 in
set_option maxHeartbeats 0 in
theorem PySem.Challenge.cw_LID_holds : PySem.Challenge.rw_LID.Holds := by
  w_on; o_law; k_head; (case hw => w_witness2)
  k_fill
  refine L2.walk_of (l := PySem.Challenge.rw_LID) (n := 63) (k := 40) (x := "script") (CX := fun w => ..) (sp := fun _ => My.sp_law) rfl (by decide) rfl ⟨rfl, by decide, by decide⟩ (fun w h Y => PySem.W.kIn_of Y) ?F ?S ?C
  case F =>
    intro w mg fa h KX G hmg
    have T : ∃ t, My.Txt (L2.KOf KX) t := by
      dsimp only [L2.KOf]                          -- K must stand as «<heap const> w.params» for k_is
      refine' My.txt_mk ?e1 ?e2 ?e3 ..
      (case e1 => PySem.W.k_is)                    -- in the order: a name -> its address -> its object -> its parts
      (case e2 => PySem.W.k_is)
      ..
    obtain ⟨t, T⟩ := T
    have e0 := hmg.symm.trans (PySem.W.mg_of KX G T.law)
    cases e0                                       -- fa is the law's own address
    exact ⟨_, fun s u => .of_eq rfl, fun base kb nb => My.law_fn T kb nb⟩     -- if «.of_eq rfl» comes too early: refine' ⟨_, ?b, fun base kb nb => My.law_fn T kb nb⟩; exact fun s u => .of_eq rfl
  case S => exact fun w H a ns hl hO hS => ..
  case C => exact ..
(the tactic k_is has no namespace: write k_is) -/
namespace L2
open PySem PySem.Spec PyProof.Rows
def defArgs (s : Stmt) : Arguments := match s with
  | .FunctionDef _ a _ _ _ _ _ _ _ _ => a
  | _ => { posonlyargs := [], args := [], vararg := none, kwonlyargs := [], kw_defaults := [], kwarg := none, defaults := [] }
def defBody (s : Stmt) : List Stmt := match s with
  | .FunctionDef _ _ b _ _ _ _ _ _ _ => b
  | _ => []
def defScope (s : Stmt) : Scope := match s with
  | .FunctionDef _ _ _ _ _ _ sc _ _ _ => sc
  | _ => { kind := .function, names := [], isGenerator := false, isCoroutine := false }
abbrev CX0 : CXT := fun _ _ _ _ _ _ => False
abbrev E0 : XK := fun _ _ _ => False
theorem pass0 {X : Cx} : Passes CX0 X E0 := fun _ _ _ _ _ _ _ h => h.elim
structure Fun (K : PySem.W.Frag) (x qual : Str) (st : Stmt) (f : Addr) (fd : FuncData) : Prop where
  ex : ∃ (oc : Value) (od : Option Addr) (kV doc pm : Value) (an : Option Addr) (cdv ct : Value) (osl : Array (Option Value)),
    fd = PySem.W.fnOf x qual (defArgs st) (defBody st) (defScope st) .none kV doc pm an cdv ct ∧ K.lookup f = some ⟨oc, od, .func fd, osl⟩ ∧ PySem.W.codeIn K cdv qual = true
  kp : PySem.W.keepIn K (.ref f) = true
section
variable {P : Program} {w : World} {K : PySem.W.Frag} {mg : Str → Option Value} {base : Heap}
theorem Fun.ok {x qual : Str} {st : Stmt} {f : Addr} {fd : FuncData} {N ps : List Str} {k : Nat} {sp : Sp} (F : Fun K x qual st f fd) (S : FnScope N ps (defScope st)) (len : ∀ vs H Q E, sp vs H Q E → vs.length = ps.length)
    (hbody : ∀ (cdv : Value) (A : Around) (outer : List Env) (s : Shared) (H : Hp) (vs : List V) (Q : VK) (E : XK), Room k (A.deeper (envOfC qual (defScope st) s.heap.objs.size f cdv)) → sp vs H Q E →
      ∃ t, PSs (cxOf CX0 P w K mg base N qual (defScope st) f cdv A outer s H E).nox (defBody st) t ∧ t { nx := fun _ H' => Q .non H', rt := Q } (start N vs) H) : FnOk P w K mg base CX0 (k + 1) f fd ps sp := by
  obtain ⟨oc, od, kV, doc, pm, an, cdv, ct, osl, rfl, lk, hcd⟩ := F.ex
  refine fn_of lk hcd S len fun A outer s H vs Q E hr hsp => ?_
  obtain ⟨t, h, q⟩ := hbody cdv A outer s H vs Q E hr hsp
  exact ⟨t, h.nox, q⟩
theorem Fun.binds {x qual : Str} {st : Stmt} {f : Addr} {fd : FuncData} {ps : List Str} (F : Fun K x qual st f fd)
    (h : ∀ (kV doc pm : Value) (an : Option Addr) (cdv ct : Value) (us : List Value), us.length = ps.length → bindArgs (PySem.W.fnOf x qual (defArgs st) (defBody st) (defScope st) .none kV doc pm an cdv ct) ⟨us, []⟩ = pure (ps.zip us)) : Binds K fd ps [] := by
  obtain ⟨oc, od, kV, doc, pm, an, cdv, ct, osl, rfl, lk, hcd⟩ := F.ex
  exact .all (h kV doc pm an cdv ct)
theorem fun_mk {x qual : Str} {st : Stmt} {f : Addr} {oc : Value} {od an : Option Addr} {osl : Array (Option Value)} {kV doc pm cdv ct : Value} (l : K.lookup f = some ⟨oc, od, .func (PySem.W.fnOf x qual (defArgs st) (defBody st) (defScope st) .none kV doc pm an cdv ct), osl⟩)
    (c : PySem.W.codeIn K cdv qual = true) (k : PySem.W.keepIn K (.ref f) = true) : Fun K x qual st f (PySem.W.fnOf x qual (defArgs st) (defBody st) (defScope st) .none kV doc pm an cdv ct) := ⟨⟨oc, od, kV, doc, pm, an, cdv, ct, osl, rfl, l, c⟩, k⟩
end
theorem hu_of {A : Around} {k : Nat} (hr : Room k A) : A.units + 1 < cLine := Nat.lt_of_le_of_lt (Nat.add_le_add_left (by decide : 1 ≤ 64) _) hr.units
section
variable {X : Cx}
theorem pv (i : Nat) {x : Str} {pos : Pos} (hN : X.N[i]? = some x := by rfl) (hv : Vis X.env.scope x := by first | exact Or.inl rfl | exact Or.inr (Or.inl rfl) | exact Or.inr (Or.inr rfl)) (hd : (x == ("__debug__" : Str)) = false := by decide)
    (hcd : (x == ("__classdict__" : Str)) = false := by decide) : PE X (.Name x pos) (tVar i) := pe_var hN hv hd hcd
end
theorem iteF {A B : Prop} (h : B) : if false = true then A else B := by
  rw [if_neg Bool.false_ne_true]
  exact h
theorem iteT {A B : Prop} (h : A) : if true = true then A else B := by
  rw [if_pos rfl]
  exact h
theorem ite2 {c A B : Prop} [Decidable c] (h1 : c → A) (h2 : ¬ c → B) : if c then A else B := by
  by_cases h : c
  · rw [if_pos h]
    exact h1 h
  · rw [if_neg h]
    exact h2 h
def Same (H H' : Hp) : Prop := ∀ b o, H b = some o → H' b = some o
theorem Same.refl (H : Hp) : Same H H := fun _ _ h => h
theorem Same.trans {H H1 H2 : Hp} (a : Same H H1) (b : Same H1 H2) : Same H H2 := fun c o h => b c o (a c o h)
theorem Same.free {H H' : Hp} (e : Same H H') {l : Addr} (h : H' l = Option.none) : H l = Option.none := by
  cases q : H l with
  | none => rfl
  | some o =>
    rw [e l o q] at h
    cases h
theorem Same.seq {K : PySem.W.Frag} {H H' : Hp} {a : Addr} {xs : List V} (e : Same H H') (h : SqL K H a xs) : SqL K H' a xs := by
  rcases h with (h | ⟨o, h⟩) | h
  · exact .inl (.inl (e _ _ h))
  · exact .inl (.inr ⟨o, e _ _ h⟩)
  · exact .inr h
end L2
namespace L2
open PySem PySem.Spec PyProof.Rows
section
variable {κ : Type} [DecidableEq κ]
def valV (kvs : List (κ × V)) (k : κ) : Option V := (kvs.find? fun kv => decide (kv.1 = k)).map (·.2)
def putK (kvs : List (κ × V)) (k : κ) (v : V) : List (κ × V) :=
  if (kvs.any fun kv => decide (kv.1 = k)) = true then kvs.map (fun kv => if kv.1 = k then (kv.1, v) else kv) else kvs ++ [(k, v)]
def dropK (kvs : List (κ × V)) (k : κ) : List (κ × V) := kvs.filter fun kv => decide (kv.1 ≠ k)
theorem valV_pos {p : κ × V} {r : List (κ × V)} {k : κ} (e : p.1 = k) : valV (p :: r) k = some p.2 := by simp [valV, List.find?_cons, e]
theorem valV_neg {p : κ × V} {r : List (κ × V)} {k : κ} (e : ¬ p.1 = k) : valV (p :: r) k = valV r k := by simp [valV, List.find?_cons, e]
theorem valV_any (k : κ) : ∀ kvs : List (κ × V), (kvs.any fun kv => decide (kv.1 = k)) = (valV kvs k).isSome
  | [] => rfl
  | p :: r => by
    rw [List.any_cons]
    by_cases e : p.1 = k
    · simp only [valV_pos e, decide_eq_true e, Bool.true_or, Option.isSome_some]
    · rw [valV_neg e, decide_eq_false e, Bool.false_or]; exact valV_any k r
theorem valV_map (k j : κ) (y : V) : ∀ kvs : List (κ × V), valV (kvs.map fun kv => if kv.1 = k then (kv.1, y) else kv) j = (valV kvs j).map fun x => if j = k then y else x
  | [] => rfl
  | p :: r => by
    have ih := valV_map k j y r
    rw [List.map_cons]
    by_cases h : p.1 = k
    · rw [if_pos h]
      by_cases e : p.1 = j
      · rw [valV_pos (p := (p.1, y)) e, valV_pos e, Option.map_some, if_pos (e.symm.trans h)]
      · rw [valV_neg (p := (p.1, y)) e, valV_neg e, ih]
    · rw [if_neg h]
      by_cases e : p.1 = j
      · rw [valV_pos (p := p) e, valV_pos e, Option.map_some, if_neg (fun z => h (e.trans z))]
      · rw [valV_neg (p := p) e, valV_neg e, ih]
theorem valV_snoc (k j : κ) (y : V) : ∀ kvs : List (κ × V), valV kvs k = none → valV (kvs ++ [(k, y)]) j = if j = k then some y else valV kvs j
  | [], _ => by
    by_cases e : k = j
    · rw [if_pos e.symm]; exact valV_pos (p := (k, y)) e
    · rw [if_neg (fun z => e z.symm)]; exact valV_neg (p := (k, y)) e
  | p :: r, hn => by
    rw [List.cons_append]
    have hk : ¬ p.1 = k := fun z => by rw [valV_pos z] at hn; cases hn
    rw [valV_neg hk] at hn
    have ih := valV_snoc k j y r hn
    by_cases e : p.1 = j
    · rw [valV_pos e, valV_pos e, if_neg (fun z => hk (e.trans z))]
    · rw [valV_neg e, valV_neg e, ih]
theorem valV_put (kvs : List (κ × V)) (k j : κ) (y : V) : valV (putK kvs k y) j = if j = k then some y else valV kvs j := by
  unfold putK
  by_cases a : (kvs.any fun kv => decide (kv.1 = k)) = true
  · rw [if_pos a, valV_map]
    rw [valV_any] at a
    by_cases e : j = k
    · obtain ⟨x, hx⟩ := Option.isSome_iff_exists.mp a
      rw [if_pos e, e, hx, Option.map_some, if_pos rfl]
    · rw [if_neg e]
      cases valV kvs j with
      | none => rfl
      | some x => rw [Option.map_some, if_neg e]
  · rw [if_neg a]
    refine valV_snoc k j y kvs ?_
    rw [valV_any] at a
    cases q : valV kvs k with
    | none => rfl
    | some x => rw [q] at a; exact (a rfl).elim
theorem length_putK (kvs : List (κ × V)) (k : κ) (v : V) : (putK kvs k v).length ≤ kvs.length + 1 := by
  unfold putK
  split
  · rw [List.length_map]; omega
  · rw [List.length_append, List.length_cons, List.length_nil]; omega
theorem RelO.isSome_eq {o : Option V} {u : Option Value} (r : RelO o u) : o.isSome = u.isSome := by
  cases o with
  | none => cases u with
    | none => rfl
    | some _ => exact (show False from r).elim
  | some _ => cases u with
    | none => exact (show False from r).elim
    | some _ => rfl
theorem RelO.getD {o : Option V} {u : Option Value} {d : V} {d' : Value} (r : RelO o u) (rd : RelV d d') : RelV (o.getD d) (u.getD d') := by
  cases o with
  | none => cases u with
    | none => exact rd
    | some _ => exact (show False from r).elim
  | some _ => cases u with
    | none => exact (show False from r).elim
    | some _ => exact r
theorem KV.val {kvs : List (κ × V)} {vs : List (κ × Value)} (r : KV kvs vs) (k : κ) : RelO (valV kvs k) (valueAt vs k) := by
  unfold KV at r
  induction r with
  | nil => exact True.intro
  | @cons p q ps qs h t ih =>
    obtain ⟨h1, h2⟩ := h
    by_cases e : p.1 = k
    · have e' : q.1 = k := h1.symm.trans e
      have b : valueAt (q :: qs) k = some q.2 := by simp [valueAt, List.find?_cons, e']
      rw [valV_pos e, b]; exact h2
    · have e' : ¬ q.1 = k := fun z => e (h1.trans z)
      have b : valueAt (q :: qs) k = valueAt qs k := by simp [valueAt, List.find?_cons, e']
      rw [valV_neg e, b]; exact ih
theorem KV.any {kvs : List (κ × V)} {vs : List (κ × Value)} (r : KV kvs vs) (k : κ) : (kvs.any fun kv => decide (kv.1 = k)) = vs.any fun kv => decide (kv.1 = k) := by
  unfold KV at r
  induction r with
  | nil => rfl
  | cons h t ih => rw [List.any_cons, List.any_cons, ih, h.1]
theorem KV.repl {kvs : List (κ × V)} {vs : List (κ × Value)} (r : KV kvs vs) (k : κ) {y : V} {u : Value} (ry : RelV y u) :
    KV (kvs.map fun kv => if kv.1 = k then (kv.1, y) else kv) (vs.map fun kv => if kv.1 = k then (kv.1, u) else kv) := by
  unfold KV at r ⊢
  induction r with
  | nil => exact .nil
  | @cons p q ps qs h t ih =>
    rw [List.map_cons, List.map_cons]
    refine .cons ?_ ih
    obtain ⟨h1, h2⟩ := h
    by_cases e : p.1 = k
    · rw [if_pos e, if_pos (h1.symm.trans e)]; exact ⟨h1, ry⟩
    · rw [if_neg e, if_neg (fun z => e (h1.trans z))]; exact ⟨h1, h2⟩
theorem KV.put {kvs : List (κ × V)} {vs : List (κ × Value)} (r : KV kvs vs) (k : κ) {y : V} {u : Value} (ry : RelV y u) : KV (putK kvs k y) (stored vs k u) := by
  unfold putK stored
  rw [r.any k]
  by_cases e : (vs.any fun kv => decide (kv.1 = k)) = true
  · rw [if_pos e, if_pos e]; exact r.repl k ry
  · rw [if_neg e, if_neg e]; exact Paired.snoc r ⟨rfl, ry⟩
theorem KV.drop {kvs : List (κ × V)} {vs : List (κ × Value)} (r : KV kvs vs) (k : κ) : KV (dropK kvs k) (without vs k) := by
  unfold KV at r ⊢
  unfold dropK without
  induction r with
  | nil => exact .nil
  | @cons p q ps qs h t ih =>
    obtain ⟨h1, h2⟩ := h
    rw [List.filter_cons, List.filter_cons]
    by_cases e : p.1 = k
    · have a : ¬ decide (p.1 ≠ k) = true := by simp [e]
      have b : ¬ decide (q.1 ≠ k) = true := by simp [h1.symm.trans e]
      rw [if_neg a, if_neg b]; exact ih
    · have e' : ¬ q.1 = k := fun z => e (h1.trans z)
      have a : decide (p.1 ≠ k) = true := by simp [e]
      have b : decide (q.1 ≠ k) = true := by simp [e']
      rw [if_pos a, if_pos b]; exact .cons ⟨h1, h2⟩ ih
theorem KV.keys {kvs : List (κ × V)} {vs : List (κ × Value)} (r : KV kvs vs) : kvs.map (·.1) = vs.map (·.1) := by
  unfold KV at r
  induction r with
  | nil => rfl
  | cons h t ih => rw [List.map_cons, List.map_cons, ih, h.1]
theorem KV.length {kvs : List (κ × V)} {vs : List (κ × Value)} (r : KV kvs vs) : kvs.length = vs.length := Paired.length r
end
theorem kV_is {P : Program} {w : World} {k : Key} {u : Value} (r : RelV (kV k) u) : (mixKind P w).is k u = true := by
  cases k with
  | inl i => obtain ⟨t, e⟩ := (show ∃ t, u = Value.int i t from r); subst e; exact mixKind_int P w i t
  | inr x => obtain ⟨t, e⟩ := (show ∃ t, u = Value.str x t from r); subst e; exact mixKind_str P w x t
theorem items_are {P : Program} {w : World} : ∀ {ks : List Key} {us : List Value}, Vals (ks.map kV) us → ItemsAre (mixKind P w) ks us
  | [], _, r => by rw [List.map_nil] at r; cases r; exact .nil
  | k :: ks, _, r => by
    rw [List.map_cons] at r
    cases r with
    | cons h t => exact .cons (kV_is h) (items_are t)
abbrev KT (H : Hp) : List (List Key × V) → List (List Key × Addr × Value) → Prop := Paired fun p q => p.1 = q.1 ∧ H q.2.1 = some (.tup (p.1.map kV)) ∧ RelV p.2 q.2.2
theorem KT.val {H : Hp} {kvs : List (List Key × V)} {xs : List (List Key × Addr × Value)} (r : KT H kvs xs) (k : List Key) : RelO (valV kvs k) ((atKey xs k).map (·.2)) := by
  induction r with
  | nil => exact True.intro
  | @cons p q ps qs h t ih =>
    obtain ⟨h1, _, h2⟩ := h
    by_cases e : p.1 = k
    · have e' : q.1 = k := h1.symm.trans e
      have b : atKey (q :: qs) k = some q.2 := by simp [atKey, List.find?_cons, e']
      rw [valV_pos e, b]; exact h2
    · have e' : ¬ q.1 = k := fun z => e (h1.trans z)
      have b : atKey (q :: qs) k = atKey qs k := by simp [atKey, List.find?_cons, e']
      rw [valV_neg e, b]; exact ih
theorem KT.repl {H : Hp} {kvs : List (List Key × V)} {xs : List (List Key × Addr × Value)} (r : KT H kvs xs) (k : List Key) {y : V} {u : Value} (ry : RelV y u) :
    KT H (kvs.map fun kv => if kv.1 = k then (kv.1, y) else kv) (xs.map (putAt k u)) := by
  induction r with
  | nil => exact .nil
  | @cons p q ps qs h t ih =>
    rw [List.map_cons, List.map_cons]
    refine .cons ?_ ih
    obtain ⟨h1, h2, h3⟩ := h
    unfold putAt
    by_cases e : p.1 = k
    · rw [if_pos e, if_pos (h1.symm.trans e)]; exact ⟨h1, h2, ry⟩
    · rw [if_neg e, if_neg (fun z => e (h1.trans z))]; exact ⟨h1, h2, h3⟩
theorem KT.put {H : Hp} {kvs : List (List Key × V)} {xs : List (List Key × Addr × Value)} (r : KT H kvs xs) (k : List Key) {b : Addr} {y : V} {u : Value} (hb : H b = some (.tup (k.map kV))) (ry : RelV y u) :
    KT H (putK kvs k y) (storedH xs k b u) := by
  have e : (kvs.any fun kv => decide (kv.1 = k)) = (atKey xs k).isSome := by
    rw [valV_any, (r.val k).isSome_eq, Option.isSome_map]
  unfold putK storedH
  rw [e]
  by_cases q : (atKey xs k).isSome = true
  · rw [if_pos q, if_pos q]; exact r.repl k ry
  · rw [if_neg q, if_neg q]; exact Paired.snoc r ⟨rfl, hb, ry⟩
theorem KT.keeps {H H' : Hp} {kvs : List (List Key × V)} {xs : List (List Key × Addr × Value)} (r : KT H kvs xs) (ht : ∀ b ys, H b = some (.tup ys) → H' b = some (.tup ys)) : KT H' kvs xs :=
  Paired.mapP r fun _ _ z => ⟨z.1, ht _ _ z.2.1, z.2.2⟩
section
variable {P : Program} {w : World} {H : Hp} {h : Heap} {a : Addr}
theorem rd_of {u : HO} (ok : HOk P w H h) (e : Rd H a u) : ObjOk P w H h a u := e.ok ok
theorem dk_rd {kvs : List (Key × V)} (ok : HOk P w H h) (e : Rd H a (.dK kvs)) : kvs.length ≤ sizeLine ∧ (a == sysModules) = false ∧ ∃ vs, KV kvs vs ∧ h.DictOf (mixKind P w) a vs :=
  show ObjOk P w H h a (.dK kvs) from rd_of ok e
theorem dk_of {kvs : List (Key × V)} (ok : HOk P w H h) (e : H a = some (.dK kvs)) : kvs.length ≤ sizeLine ∧ (a == sysModules) = false ∧ ∃ vs, KV kvs vs ∧ h.DictOf (mixKind P w) a vs := dk_rd ok (.inl e)
theorem key_of {ks : List Key} (ok : HOk P w H h) (e : H a = some (.tup (ks.map kV))) : (tupleKind (mixKind P w)).is h ks a := by
  obtain ⟨_, its, r, o, h1, h2, n, h3, _⟩ := (show ObjOk P w H h a (.tup (ks.map kV)) from ok a _ e)
  exact ⟨o, its.toArray, n, h1, h2, h3, by simpa using items_are r⟩
theorem dt_rd {kvs : List (List Key × V)} (ok : HOk P w H h) (e : Rd H a (.dT kvs)) : kvs.length ≤ sizeLine ∧ (a == sysModules) = false ∧
    ∃ xs, KT H kvs xs ∧ h.DictOfH (tupleKind (mixKind P w)) a xs := by
  obtain ⟨z, y, xs, r, o, es, ep, h1, h2, h3, h4, h5⟩ := (show ObjOk P w H h a (.dT kvs) from rd_of ok e)
  refine ⟨z, y, xs, r, o, es, ep, h1, h2, h3, h4, fun x hx => ?_, h5⟩
  have all : ∀ {l : List (List Key × V)} {m : List (List Key × Addr × Value)}, KT H l m → ∀ x ∈ m, (tupleKind (mixKind P w)).is h x.1 x.2.1 := by
    intro l m q
    induction q with
    | nil => intro x hx; exact nomatch hx
    | @cons p q ps qs hq t ih =>
      intro x hx
      rcases List.mem_cons.mp hx with e | hx
      · subst e
        exact key_of ok (by rw [← hq.1]; exact hq.2.1)
      · exact ih x hx
  exact all r x hx
end
def DGet (H : Hp) (a : Addr) (y : V) (r : Option V) : Prop :=
  (∃ kvs k, Rd H a (.dK kvs) ∧ y = kV k ∧ r = valV kvs k) ∨ ∃ kvs k b, Rd H a (.dT kvs) ∧ y = .ref b ∧ H b = some (.tup (k.map kV)) ∧ r = valV kvs k
def DPut (H : Hp) (a : Addr) (y v : V) (H' : Hp) : Prop :=
  (∃ kvs k, H a = some (.dK kvs) ∧ y = kV k ∧ kvs.length < sizeLine ∧ H' = upd H a (.dK (putK kvs k v))) ∨
  ∃ kvs k b, H a = some (.dT kvs) ∧ y = .ref b ∧ H b = some (.tup (k.map kV)) ∧ kvs.length < sizeLine ∧ H' = upd H a (.dT (putK kvs k v))
theorem DGet.k {H : Hp} {a : Addr} {kvs : List (Key × V)} {k : Key} (e : H a = some (.dK kvs)) : DGet H a (kV k) (valV kvs k) := .inl ⟨kvs, k, .inl e, rfl, rfl⟩
theorem DGet.t {H : Hp} {a b : Addr} {kvs : List (List Key × V)} {k : List Key} (e : H a = some (.dT kvs)) (eb : H b = some (.tup (k.map kV))) : DGet H a (.ref b) (valV kvs k) := .inr ⟨kvs, k, b, .inl e, rfl, eb, rfl⟩
theorem DPut.k {H : Hp} {a : Addr} {kvs : List (Key × V)} {k : Key} {v : V} (e : H a = some (.dK kvs)) (hl : kvs.length < sizeLine) : DPut H a (kV k) v (upd H a (.dK (putK kvs k v))) := .inl ⟨kvs, k, e, rfl, hl, rfl⟩
theorem DPut.t {H : Hp} {a b : Addr} {kvs : List (List Key × V)} {k : List Key} {v : V} (e : H a = some (.dT kvs)) (eb : H b = some (.tup (k.map kV))) (hl : kvs.length < sizeLine) :
    DPut H a (.ref b) v (upd H a (.dT (putK kvs k v))) := .inr ⟨kvs, k, b, e, rfl, eb, hl, rfl⟩
section
variable {X : Cx} {pins : List (Addr × Obj)} {σ : St} {H : Hp} {s : Shared} {a : Addr} {y v : V} {u r : Value} {o : Option V} {A : Around} {E : Value → Shared → Prop}
theorem Inv.big (I : Inv X pins σ H s) : sysModules < s.heap.objs.size := by
  have h : mainGlobals < s.heap.objs.size := (I.mod.glob.keeps I.bk).lt
  exact Nat.lt_trans (by decide) h
theorem d_getItem {Q : Value → Shared → Prop} (hu : A.units + 1 < cLine) (I : Inv X pins σ H s) (g : DGet H a y (some v)) (ry : RelV y u) (h : ∀ w' s', Inv X pins σ H s' → RelV v w' → Q w' s') :
    wpAny (model X.prog X.w) A (getItem (.ref a) u) Q E s := by
  rcases g with ⟨kvs, k, e, ey, l⟩ | ⟨kvs, k, b, e, ey, eb, l⟩
  · subst ey
    obtain ⟨z, hd, vs, rel, dd⟩ := dk_rd I.hok e
    obtain ⟨w', hw, rw'⟩ := RelO.some_of (v := v) (o := valueAt vs k) (by rw [l]; exact rel.val k)
    exact wpAny_getItem_of (kV_is ry) dd.mapOf hw (h w' _ (I.tok _) rw')
  · subst ey
    cases (show u = Value.ref b from ry)
    obtain ⟨z, hd, xs, rel, dd⟩ := dt_rd I.hok e
    obtain ⟨w', hw, rw'⟩ := RelO.some_of (v := v) (o := (atKey xs k).map (·.2)) (by rw [l]; exact rel.val k)
    obtain ⟨p, hp, hp2⟩ := Option.map_eq_some_iff.mp hw
    refine wpAny_getItem_heap (tupleKind_room_in1 hu) (key_of I.hok eb) dd hp ?_
    rw [hp2]
    exact h w' _ (I.tok _) rw'
theorem d_write {h' : Heap} {t' : Nat} {ob : HO} (I : Inv X pins σ H s) (mu : Mut (H a)) (hs : Heap.SameBut a s.heap h') (he : ∃ q, h'.get? a = some q) (new : ObjOk X.prog X.w (upd H a ob) h' a ob) :
    Inv X pins σ (upd H a ob) { s with heap := h', toks := t' } :=
  I.write (x := a) (e := a) mu (.inl rfl) (fun b q hb z => (hs.2 b hb).trans z) he new
theorem dk_new {P : Program} {w : World} {H' : Hp} {h' : Heap} {kvs : List (Key × V)} {vs : List (Key × Value)} (z : kvs.length ≤ sizeLine) (hd : (a == sysModules) = false) (rel : KV kvs vs) (dd : h'.DictOf (mixKind P w) a vs) :
    ObjOk P w H' h' a (.dK kvs) := ⟨z, hd, vs, rel, dd⟩
end
section
variable {X : Cx} {pins : List (Addr × Obj)} {σ : St} {H : Hp} {s : Shared} {a : Addr} {kvs : List (Key × V)} {k : Key} {u : Value} {A : Around} {E : Value → Shared → Prop}
end
def NoSl (i : Expr) : Prop := ∀ ov iv, subscripted i false ov iv = operate [ov, iv] (getItem ov iv)
theorem subD_of {prog : Program} {w : World} {A : Around} {E : Value → Shared → Prop} {s : Shared} {env : Env} {value slice : Expr} {pos : Pos} {T id : String} {Q : Value → Shared → Prop}
    (hl : typeLookup (.type T) "__getitem__" = pure (some (.builtin id))) (hs : NoSl slice)
    (h : wpAny (model prog w) A (eval value env) (fun o s₁ => wpAny (model prog w) A (eval slice env) (fun i s₂ => s₂.TypeIs o T ∧ wpAny (model prog w) A (getItem o i) Q E s₂) E s₁) E s) :
    wpAny (model prog w) A (eval (.Subscript value slice pos) env) Q E s := by
  refine Subscript_ (wpAny_mono h (fun o s₁ h₁ => wpAny_mono h₁ (fun i s₂ h₂ => ?_) fun _ _ x => x) fun _ _ x => x)
  obtain ⟨hT, h₂⟩ := h₂
  unfold subscriptTail
  refine wpAny_bind ?_
  rw [getitemInPython_of_ne hT.not_modules]
  refine wpAny_bind (wpAny_specialOf hT hl ?_)
  have fin : wpAny (model prog w) A (subscripted slice false o i) (fun r s₃ => wpAny (model prog w) A (letTemporaryGo value o r >>= fun _ => pure r) Q E s₃) E s₂ := by
    rw [hs o i]
    exact wpAny_operating (wpAny_mono h₂ (fun r s₃ h₃ => wpAny_bind (wpAny_letTemporaryGo (wpAny_pure h₃))) fun _ _ x => x)
  first
    | exact wpAny_pure (wpAny_bind fin)
    | exact wpAny_bind (wpAny_pure (wpAny_bind fin))
    | exact wpAny_bind fin
theorem dict_typeIs {X : Cx} {pins : List (Addr × Obj)} {σ : St} {H : Hp} {s : Shared} {a : Addr} {y : V} {o : Option V} (I : Inv X pins σ H s) (g : DGet H a y o) : s.TypeIs (.ref a) "dict" := by
  rcases g with ⟨kvs, k, e, _, _⟩ | ⟨kvs, k, b, e, _, _, _⟩
  · obtain ⟨_, _, vs, _, dd⟩ := dk_rd I.hok e
    exact dd.typeIs
  · obtain ⟨_, _, xs, _, dd⟩ := dt_rd I.hok e
    exact dd.typeIs
def tDGet (td ty : TE) : TE := fun σ H Q => td σ H fun x H1 => ty σ H1 fun y H2 => ∃ a v, x = .ref a ∧ DGet H2 a y (some v) ∧ Q v H2
def tDIn (ty td : TE) : TE := fun σ H Q => ty σ H fun y H1 => td σ H1 fun x H2 => ∃ a o, x = .ref a ∧ DGet H2 a y o ∧ Q (.bl o.isSome) H2
def tDNotIn (ty td : TE) : TE := fun σ H Q => ty σ H fun y H1 => td σ H1 fun x H2 => ∃ a o, x = .ref a ∧ DGet H2 a y o ∧ Q (.bl (!o.isSome)) H2
def sDPut (td ty tv : TE) : TS := fun D σ H => tv σ H fun v H1 => td σ H1 fun x H2 => ty σ H2 fun y H3 => ∃ a H4, x = .ref a ∧ DPut H3 a y v H4 ∧ D.nx σ H4
section
variable {X : Cx} {o i e value : Expr} {pos pos' tpos : Pos} {td ty tv : TE}
theorem pe_dget (hu : X.A.units + 1 < cLine) (ho : PE X o td) (hi : PE X i ty) (hs : NoSl i) : PE X (.Subscript o i pos) (tDGet td ty) := by
  intro pins s σ H Q I h
  refine subD_of PySem.F.slot_dict_getitem.lookup hs (thn (ho pins s σ H _ I h) fun u s1 ⟨x, H1, I1, rx, q1⟩ => thn (hi pins s1 σ H1 _ I1 q1) fun iv s2 ⟨y, H2, I2, ry, a, v, ex, g, q2⟩ => ?_)
  subst ex
  obtain rfl : u = Value.ref a := rx
  exact ⟨dict_typeIs I2 g, d_getItem hu I2 g ry fun w' s3 I3 rw' => ⟨v, H2, I3, rw', q2⟩⟩
end
theorem dk_empty {P : Program} {w : World} {H : Hp} (h : Heap) (hb : sysModules < h.objs.size) : ObjOk P w H (h.push { cls := .type "dict", data := .dict #[] }) h.objs.size (.dK []) :=
  ⟨Nat.zero_le _, beq_eq_false_iff_ne.mpr (Ne.symm (Nat.ne_of_lt hb)), [], .nil, Heap.DictOf.new h⟩
def tDNewK : TE := fun _ H Q => ∀ p, H p = none → Q (.ref p) (upd H p (.dK []))
section
variable {X : Cx} {pos : Pos}
end
def tPairs : List (TE × TE) → St → Hp → (List (V × V) → Hp → Prop) → Prop
  | [], _, H, Q => Q [] H
  | (tk, tv) :: r, σ, H, Q => tk σ H fun x H1 => tv σ H1 fun y H2 => tPairs r σ H2 fun ps H3 => Q ((x, y) :: ps) H3
abbrev VV : List (V × V) → List (Value × Value) → Prop := Paired fun p q => RelV p.1 q.1 ∧ RelV p.2 q.2
def PPs (X : Cx) (pos : Pos) (keys : List (Option Expr)) (values : List Expr) (trs : List (TE × TE)) : Prop :=
  ∀ (pins : List (Addr × Obj)) (s : Shared) (σ : St) (H : Hp) (Q : List (V × V) → Hp → Prop), Inv X pins σ H s → tPairs trs σ H Q →
    wpAny (model X.prog X.w) X.A (evalPairs (pairTrees keys values X.env pos)) (fun vs s' => ∃ ps H', Inv X pins σ H' s' ∧ VV ps vs ∧ Q ps H') X.xe s
theorem pps_nil {X : Cx} {pos : Pos} : PPs X pos [] [] [] := fun pins s σ H Q I h => pairTrees_nil_walk ⟨[], H, I, .nil, h⟩
theorem pps_cons {X : Cx} {pos : Pos} {k v : Expr} {ks : List (Option Expr)} {vs : List Expr} {tk tv : TE} {trs : List (TE × TE)} (hk : PE X k tk) (hv : PE X v tv) (hr : PPs X pos ks vs trs) :
    PPs X pos (some k :: ks) (v :: vs) ((tk, tv) :: trs) := fun pins s σ H Q I h =>
  pairTrees_cons_walk (thn (hk pins s σ H _ I h) fun u s1 ⟨x, H1, I1, rx, q1⟩ => thn (hv pins s1 σ H1 _ I1 q1) fun w2 s2 ⟨y, H2, I2, ry, q2⟩ =>
    thn (hr pins s2 σ H2 _ I2 q2) fun ws s3 ⟨ps, H3, I3, rel, q3⟩ => ⟨(x, y) :: ps, H3, I3, .cons ⟨rx, ry⟩ rel, q3⟩)
def mergeK (kvs more : List (Key × V)) : List (Key × V) := more.foldl (fun acc kv => putK acc kv.1 kv.2) kvs
theorem KV.merge : ∀ {more : List (Key × V)} {rs : List (Key × Value)} {kvs : List (Key × V)} {vs : List (Key × Value)}, KV more rs → KV kvs vs → KV (mergeK kvs more) (merged vs rs) := by
  intro more rs kvs vs r
  unfold KV at r
  induction r generalizing kvs vs with
  | nil => intro q; exact q
  | @cons p q ps qs h t ih =>
    intro r0
    have e : KV (putK kvs p.1 p.2) (stored vs q.1 q.2) := by
      have := r0.put p.1 h.2
      rw [← h.1]; exact this
    exact ih e
theorem length_mergeK : ∀ (more kvs : List (Key × V)), (mergeK kvs more).length ≤ kvs.length + more.length
  | [], kvs => by show kvs.length ≤ kvs.length + 0; omega
  | p :: r, kvs => by
    have h1 := length_mergeK r (putK kvs p.1 p.2)
    have h2 := length_putK kvs p.1 p.2
    show (mergeK (putK kvs p.1 p.2) r).length ≤ _
    rw [List.length_cons]; omega
theorem carries_of {P : Program} {w : World} : ∀ {kvs : List (Key × V)} {ws : List (Value × Value)}, VV (kvs.map fun kv => (kV kv.1, kv.2)) ws → ∃ rs, Carries (mixKind P w) ws rs ∧ KV kvs rs
  | [], _, r => by rw [List.map_nil] at r; cases r; exact ⟨[], True.intro, .nil⟩
  | p :: kvs, _, r => by
    rw [List.map_cons] at r
    cases r with
    | @cons a b as bs h t =>
      obtain ⟨rs, c, q⟩ := carries_of (P := P) (w := w) t
      obtain ⟨b1, b2⟩ := b
      exact ⟨(p.1, b2) :: rs, ⟨kV_is h.1, rfl, c⟩, .cons ⟨rfl, h.2⟩ q⟩
def tDisp (trs : List (TE × TE)) : TE := fun σ H Q => ∀ p, H p = none → tPairs trs σ (upd H p (.dK [])) fun ps H2 => H2 p = some (.dK []) ∧ ∃ kvs : List (Key × V), ps = kvs.map (fun kv => (kV kv.1, kv.2)) ∧ kvs.length ≤ 15 ∧ Q (.ref p) (upd H2 p (.dK (mergeK [] kvs)))
theorem pe_disp {X : Cx} {pos : Pos} {keys : List (Option Expr)} {values : List Expr} {trs : List (TE × TE)} (h : PPs X pos keys values trs) (hall : keys.all (·.isSome) = true) (hl : keys.length = values.length) (h0 : keys ≠ [])
    (h15 : keys.length ≤ 15) : PE X (.Dict keys values pos) (tDisp trs) := by
  intro pins s σ H Q I q
  have hn := I.hok.fresh (Nat.le_refl s.heap.objs.size)
  have I1 := I.laid (a := s.heap.objs.size) (o := .dK []) (h' := s.heap.push { cls := .type "dict", data := .dict #[] }) (t' := s.toks) (fun _ _ q => Heap.get?_push_of_some _ q) (Nat.le_refl _) (dk_empty s.heap I.big)
  refine wpAny_Dict_walk (knd := mixKind X.prog X.w) hall hl h0 h15 (thn (h pins _ σ _ _ I1 (q _ hn)) fun ws s2 ⟨ps, H2, I2, rel, e, kvs, ep, lk, q2⟩ => ?_)
  subst ep
  obtain ⟨rs, c, rk⟩ := carries_of (P := X.prog) (w := X.w) rel
  obtain ⟨z, hd, vs0, r0, dd⟩ := dk_of I2.hok e
  cases r0
  refine ⟨rs, c, dd, fun h' dd' hs => ⟨.ref s.heap.objs.size, _, ?_, rfl, q2⟩⟩
  have hz : (mergeK [] kvs).length ≤ sizeLine := by
    have h1 := length_mergeK kvs []
    rw [List.length_nil] at h1
    rw [sizeLine_eq]; omega
  have he : ∃ q, h'.get? s.heap.objs.size = some q := let ⟨q, _, _, hq, _⟩ := dd'; ⟨q, hq⟩
  exact d_write I2 (by rw [e]; exact True.intro) hs he (dk_new hz hd (rk.merge .nil) dd')
structure M2 (X : Cx) (o : Expr) (m : Str) (apos : Pos) (e f : Expr) (cpos : Pos) : Prop where
  base : attributeBase o m X.env (eval o X.env) = eval o X.env
  few : ((backTo cpos (starEach [e, f] X.env)).all (fun x => !x.1) && (backToKw cpos (keywordEach [] X.env)).all (fun x => x.1.isSome)
    && decide (([e, f] : List Expr).length + ([] : List Keyword).length + (if ([] : List Keyword).isEmpty then 0 else 1) < 30)) = true
  line : (apos.endLine == cpos.line) = true
  trees : backTo cpos (starEach [e, f] X.env) = [(false, eval e X.env), (false, eval f X.env)]
section
variable {X : Cx} {pins : List (Addr × Obj)} {σ : St} {H : Hp} {s : Shared} {a : Addr} {y d : V} {u r : Value} {o : Option V} {A : Around} {E : Value → Shared → Prop}
end
section
variable {X : Cx} {o e f : Expr} {apos cpos : Pos} {td ty tx : TE}
end
section
variable {X : Cx} {pins : List (Addr × Obj)} {σ : St} {H : Hp} {s : Shared} {a : Addr} {kvs : List (Key × V)} {A : Around} {E : Value → Shared → Prop}
end
section
variable {X : Cx} {pins : List (Addr × Obj)} {σ : St} {H : Hp} {s : Shared} {a : Addr} {y : V} {u : Value} {A : Around} {E : Value → Shared → Prop}
end
end L2
namespace L2
open PySem PySem.Spec PyProof.Rows
section
variable {X : Cx}
end
section
variable {κ : Type} [DecidableEq κ]
end
end L2
namespace L2
open PySem PySem.Spec PyProof.Rows
def tVarD (i : Nat) : TE := fun σ H Q => match σ[i]? with | some (some v) => Q v H | _ => False
theorem pvD {X : Cx} (i : Nat) {x : Str} {pos : Pos} (hN : X.N[i]? = some x) (hv : Vis X.env.scope x) (hd : (x == ("__debug__" : Str)) = false) (hcd : (x == ("__classdict__" : Str)) = false) : PE X (.Name x pos) (tVarD i) := fun pins s σ H Q I h => pv i hN hv hd hcd pins s σ H Q I (by
  unfold tVarD at h
  split at h
  · exact ⟨_, ‹_›, h⟩
  · exact h.elim)
theorem tVarD_any {i : Nat} {σ : L2.St} {H : Hp} {Q : VK} : tVarD i σ H Q = ∃ v, σ[i]? = some (some v) ∧ Q v H := by
  unfold tVarD
  refine propext ⟨fun h => ?_, fun ⟨v, e, h⟩ => ?_⟩
  · split at h
    · exact ⟨_, ‹_›, h⟩
    · exact h.elim
  · rw [e]
    exact h
theorem cons_same {α : Type} {a : α} {x y : List α} : (a :: x = a :: y) = (x = y) := propext ⟨fun h => (List.cons.inj h).2, fun h => by rw [h]⟩
theorem l1_same {α : Type} {a b : α} : ([a] = [b]) = (a = b) := propext ⟨fun h => (List.cons.inj h).1, fun h => by rw [h]⟩
theorem l2_same {α : Type} {a b c d : α} : ([a, c] = [b, d]) = (a = b ∧ c = d) := propext ⟨fun h => ⟨(List.cons.inj h).1, (List.cons.inj (List.cons.inj h).2).1⟩, fun ⟨h, k⟩ => by rw [h, k]⟩
theorem l3_same {α : Type} {a b c d e f : α} : ([a, c, e] = [b, d, f]) = (a = b ∧ c = d ∧ e = f) := propext ⟨fun h => ⟨(List.cons.inj h).1, (List.cons.inj (List.cons.inj h).2).1, (List.cons.inj (List.cons.inj (List.cons.inj h).2).2).1⟩, fun ⟨h, k, l⟩ => by rw [h, k, l]⟩
theorem int_ex {a : Int} {p : Int → Prop} : (∃ x, V.int a = V.int x ∧ p x) = p a := propext ⟨fun ⟨x, e, h⟩ => by cases e; exact h, fun h => ⟨a, rfl, h⟩⟩
theorem ref_ex {a : Addr} {p : Addr → Prop} : (∃ x, V.ref a = V.ref x ∧ p x) = p a := propext ⟨fun ⟨x, e, h⟩ => by cases e; exact h, fun h => ⟨a, rfl, h⟩⟩
theorem bl_ex {a : Bool} {p : Bool → Prop} : (∃ x, V.bl a = V.bl x ∧ p x) = p a := propext ⟨fun ⟨x, e, h⟩ => by cases e; exact h, fun h => ⟨a, rfl, h⟩⟩
theorem int_ex2 {a b : Int} {p : Int → Int → Prop} : (∃ x y, V.int a = V.int x ∧ V.int b = V.int y ∧ p x y) = p a b := propext ⟨fun ⟨x, y, e, e2, h⟩ => by cases e; cases e2; exact h, fun h => ⟨a, b, rfl, rfl, h⟩⟩
theorem us1 {P : List Value → Prop} {us : List Value} (hl : us.length = 1) (h : ∀ a, P [a]) : P us := by
  match us, hl with
  | [a], _ => exact h a
theorem us2 {P : List Value → Prop} {us : List Value} (hl : us.length = 2) (h : ∀ a b, P [a, b]) : P us := by
  match us, hl with
  | [a, b], _ => exact h a b
theorem us3 {P : List Value → Prop} {us : List Value} (hl : us.length = 3) (h : ∀ a b c, P [a, b, c]) : P us := by
  match us, hl with
  | [a, b, c], _ => exact h a b c
theorem us4 {P : List Value → Prop} {us : List Value} (hl : us.length = 4) (h : ∀ a b c d, P [a, b, c, d]) : P us := by
  match us, hl with
  | [a, b, c, d], _ => exact h a b c d
theorem us5 {P : List Value → Prop} {us : List Value} (hl : us.length = 5) (h : ∀ a b c d e, P [a, b, c, d, e]) : P us := by
  match us, hl with
  | [a, b, c, d, e], _ => exact h a b c d e
end L2
namespace L2
open PySem PySem.Spec PyProof.Rows
theorem lookup_mem {α : Type} {x : Str} {c : α} : ∀ {l : List (Str × α)}, l.lookup x = some c → (x, c) ∈ l
  | [], h => by cases h
  | (y, d) :: r, h => by
    rw [List.lookup_cons] at h
    cases e : x == y with
    | true =>
      rw [e] at h
      have e' : x = y := eq_of_beq e
      cases h
      subst e'
      exact List.mem_cons_self
    | false =>
      rw [e] at h
      exact List.mem_cons_of_mem _ (lookup_mem h)
def frOf (ix : List Nat) (σ : St) : St := ix.map fun j => (σ[j]?).getD none
def SubP (cs : List (Str × Addr)) : List (Str × Addr) → Prop
  | [] => True
  | p :: r => cs.lookup p.1 = some p.2 ∧ SubP cs r
theorem SubP.of {cs : List (Str × Addr)} : ∀ {cl : List (Str × Addr)}, SubP cs cl → ∀ p ∈ cl, cs.lookup p.1 = some p.2
  | [], _, _, h => by cases h
  | p :: r, ⟨h1, h2⟩, q, hq => by
    rcases List.mem_cons.mp hq with e | e
    · rw [e]; exact h1
    · exact SubP.of h2 q e
def OutP (X : Cx) (scope : Scope) : List Str → List Nat → Prop
  | [], [] => True
  | x :: fr, j :: ix => (X.N[j]? = some x ∧ X.env.kindOf x = some .cell ∧ (relabel scope X.env).names.lookup x = some .cell) ∧ OutP X scope fr ix
  | _, _ => False
theorem OutP.len {X : Cx} {scope : Scope} : ∀ {fr : List Str} {ix : List Nat}, OutP X scope fr ix → fr.length = ix.length
  | [], [], _ => rfl
  | x :: fr, j :: ix, h => by rw [List.length_cons, List.length_cons, OutP.len h.2]
  | [], _ :: _, h => h.elim
  | _ :: _, [], h => h.elim
theorem OutP.get {X : Cx} {scope : Scope} : ∀ {fr : List Str} {ix : List Nat}, OutP X scope fr ix → ∀ (k j : Nat), ix[k]? = some j → ∃ x, fr[k]? = some x ∧ X.N[j]? = some x ∧ X.env.kindOf x = some .cell ∧ (relabel scope X.env).names.lookup x = some .cell
  | [], [], _, k, j, e => by simp at e
  | x :: fr, i :: ix, h, 0, j, e => by
    have e' : i = j := by simpa using e
    subst e'
    exact ⟨x, rfl, h.1⟩
  | x :: fr, i :: ix, h, k + 1, j, e => by
    obtain ⟨y, hy, r⟩ := OutP.get h.2 k j (by simpa using e)
    exact ⟨y, by simpa using hy, r⟩
  | [], _ :: _, h, _, _, _ => h.elim
  | _ :: _, [], h, _, _, _ => h.elim
structure ClOk (X : Cx) (scope : Scope) (own fr : List Str) (ix : List Nat) (cl : List (Str × Addr)) : Prop where
  clos : closureFor scope X.env = pure cl
  kind : scope.kind = .function
  nocell : (scope.names.all fun y => decide (y.2 ≠ .cell)) = true
  names : (scope.names.all fun y => decide (y.2 ≠ .local) || decide (scope.names.lookup y.1 = some .local)) = true
  sub : SubP X.env.cells cl
  has : ((relabel scope X.env).names.all fun y => !(decide (y.2 = .cell) || decide (y.2 = .free)) || (cl.lookup y.1).isSome) = true
  out' : OutP X scope fr ix
section
variable {X : Cx} {scope : Scope} {own fr : List Str} {ix : List Nat} {cl : List (Str × Addr)}
theorem ClOk.len (C : ClOk X scope own fr ix cl) : fr.length = ix.length := C.out'.len
theorem ClOk.out (C : ClOk X scope own fr ix cl) : ∀ (k j : Nat), ix[k]? = some j → ∃ x, fr[k]? = some x ∧ X.N[j]? = some x ∧ Vis X.env.scope x ∧ X.env.kindOf x ≠ some .local ∧ (relabel scope X.env).names.lookup x ≠ some .local := fun k j e => by
  obtain ⟨x, h1, h2, h3, h4⟩ := C.out'.get k j e
  exact ⟨x, h1, h2, .inr (.inl h3), (by rw [h3]; intro z; cases z), (by rw [h4]; intro z; cases z)⟩
theorem ClOk.nocell' (C : ClOk X scope own fr ix cl) : ∀ x ∈ scope.names, x.2 ≠ .cell := fun x hx => of_decide_eq_true (List.all_eq_true.mp C.nocell x hx)
theorem ClOk.names' (C : ClOk X scope own fr ix cl) : ∀ x ∈ scope.names, x.2 = .local → scope.names.lookup x.1 = some .local := fun x hx e => by
  have h := List.all_eq_true.mp C.names x hx
  rw [Bool.or_eq_true] at h
  rcases h with h | h
  · exact absurd e (of_decide_eq_true h)
  · exact of_decide_eq_true h
theorem ClOk.sub' (C : ClOk X scope own fr ix cl) : ∀ x c, cl.lookup x = some c → X.env.cells.lookup x = some c := fun x c h => C.sub.of _ (lookup_mem h)
theorem ClOk.has' (C : ClOk X scope own fr ix cl) : ∀ x, ((relabel scope X.env).names.lookup x = some .cell ∨ (relabel scope X.env).names.lookup x = some .free) → ∃ c, cl.lookup x = some c := fun x hx => by
  have key : ∀ k, (relabel scope X.env).names.lookup x = some k → (k = .cell ∨ k = .free) → ∃ c, cl.lookup x = some c := fun k e hk => by
    have h := List.all_eq_true.mp C.has (x, k) (lookup_mem e)
    rw [Bool.or_eq_true] at h
    rcases h with h | h
    · rcases hk with rfl | rfl
      · simp at h
      · simp at h
    · exact Option.isSome_iff_exists.mp h
  rcases hx with h | h
  · exact key _ h (.inl rfl)
  · exact key _ h (.inr rfl)
end
def cxC (X : Cx) (scope : Scope) (cl : List (Str × Addr)) (ns : List Str) (fp : List Addr) (s : Shared) (H : Hp) : Cx where
  prog := X.prog
  w := X.w
  K := X.K
  mg := X.mg
  base := X.base
  A := X.A
  N := ns
  s₀ := s
  H₀ := H
  env := compEnvC scope cl s.heap.objs.size X.env
  outer := X.stack
  stack := X.stack
  ex := fp
  fn := fun _ => false
  calm := X.calm
  pn := []
  xe := fun _ _ => False
section
variable {X : Cx} {scope : Scope} {own fr : List Str} {ix : List Nat} {cl : List (Str × Addr)} {pins : List (Addr × Obj)} {σ : St} {H : Hp} {s : Shared} {fp : List Addr}
theorem cxC_ok (C : ClOk X scope own fr ix cl) (I : Inv X pins σ H s) (f : ∀ b ∈ fp, FpOk X pins H b) (lt : ∀ b ∈ fp, b < s.heap.objs.size) : (cxC X scope cl (own ++ fr) fp s H).Ok where
  mod := I.ok.mod
  kind := C.kind
  glob := I.ok.glob
  blt := I.ok.blt
  above := Nat.le_refl _
  inj := fun x y c h1 h2 => I.ok.inj x y c (C.sub' x c h1) (C.sub' y c h2)
  has := fun x hx => C.has' x hx
  cab := fun x c h _ => Bool.noConfusion h
  hd := I.ok.hd
  frames := I.ok.frames
  stk := .inl rfl
  exf := fun b hb => ⟨Nat.ne_of_lt (lt b hb), fun x c e => (f b hb).2.2.2.2.1 x c (C.sub' x c e)⟩
  bs := fun b o e => I.bs b o e
  bsz := Nat.le_trans I.ok.bsz I.sz
  noex := fun b o e hb => by
    rcases (f b hb).2.2.2.1 with z | z
    · exact I.ok.noex b o e z
    · exact absurd (Nat.lt_of_lt_of_le (Heap.lt_size e) (Nat.le_trans I.ok.bsz z)) (Nat.lt_irrefl _)
  exfs := fun b hb z => by
    rcases List.mem_cons.mp (I.stkSub b z) with q | q
    · exact (f b hb).2.1 q
    · exact (f b hb).2.2.1 q
  funs := I.stack
  frf := I.stkFree
theorem inv_comp (C : ClOk X scope own fr ix cl) (I : Inv X pins σ H s) (f : ∀ b ∈ fp, FpOk X pins H b) (lt : ∀ b ∈ fp, b < s.heap.objs.size) {h₁ : Heap} {t : Nat} {m : Str → Option Value}
    (hns : h₁.Ns s.heap.objs.size m) (k : ∀ b o, s.heap.get? b = some o → h₁.get? b = some o) :
    Inv (cxC X scope cl (own ++ fr) fp s H) [] (List.replicate own.length none ++ frOf ix σ) H { s with heap := h₁, toks := t } where
  ok := cxC_ok C I f lt
  os := rfl
  bare := I.bare
  base := Un.kept k
  loc := ⟨m, hns, fun i x v e1 e2 e3 => by
    have e1 : (own ++ fr)[i]? = some x := e1
    by_cases hi : i < own.length
    · rw [List.getElem?_append_left (by simpa using hi), List.getElem?_replicate] at e2
      rw [if_pos hi] at e2
      cases e2
    · have hi' : own.length ≤ i := Nat.le_of_not_lt hi
      rw [List.getElem?_append_right (by simpa using hi')] at e2
      rw [List.getElem?_append_right hi'] at e1
      rw [List.length_replicate] at e2
      unfold frOf at e2
      rw [List.getElem?_map] at e2
      cases q : ix[i - own.length]? with
      | none => rw [q] at e2; cases e2
      | some j =>
        rw [q] at e2
        have e2' : (σ[j]?).getD none = some v := Option.some.inj e2
        obtain ⟨x', hx', hN, hv, hk, hl'⟩ := C.out _ j q
        rw [e1] at hx'
        cases hx'
        have e4 : σ[j]? = some (some v) := by
          cases z : σ[j]? with
          | none => rw [z] at e2'; cases e2'
          | some w => rw [z] at e2'; exact congrArg some e2'
        obtain ⟨mX, hnX, hl⟩ := I.loc
        obtain ⟨u, r, l⟩ := hl j x v hN e4 hv
        rcases l with ⟨kl, _⟩ | ⟨kk, c, ec, z⟩
        · exact absurd kl hk
        · have kY : (relabel scope X.env).names.lookup x = some .cell ∨ (relabel scope X.env).names.lookup x = some .free := by
            rcases e3 with e3 | e3 | e3
            · exact absurd e3 hl'
            · exact .inl e3
            · exact .inr e3
          obtain ⟨c', hc'⟩ := C.has' x kY
          have hcc := C.sub' x c' hc'
          rw [ec] at hcc
          cases hcc
          obtain ⟨o, ho, hd⟩ := z
          exact ⟨u, r, .inr ⟨kY, c, hc', ⟨o, k c o ho, hd⟩⟩⟩⟩
  cell := fun x c e => by
    obtain ⟨v, o, ho, hd⟩ := I.cell x c (C.sub' x c e)
    exact ⟨v, o, k c o ho, hd⟩
  free := I.hok.fresh (Nat.le_refl _)
  freeC := fun x c e => I.freeC x c (C.sub' x c e)
  pin := fun p hp => by cases hp
  hok := I.hok.kept k
  len := by
    show (List.replicate own.length none ++ frOf ix σ).length = (own ++ fr).length
    rw [List.length_append, List.length_append, List.length_replicate, C.len]
    unfold frOf
    rw [List.length_map]
theorem inv_back (I : Inv X pins σ H s) (f : ∀ b ∈ fp, FpOk X pins H b) {ns : List Str} {τ : St} {H' : Hp} {s' : Shared} {pins' : List (Addr × Obj)} (J : Inv (cxC X scope cl ns fp s H) pins' τ H' s') : Inv X pins σ H' s' :=
  I.call' (ch := fp) J.os J.base J.hok J.bare fun b hb => ⟨(f b hb).2.2.2.1, (f b hb).2.1, (f b hb).2.2.2.2.1, (f b hb).2.2.2.2.2⟩
theorem inv_gone {σ' : St} (I : Inv X pins σ H s) {H' : Hp} {s' : Shared} {h' : Heap} (J : Inv X pins σ' H' s') (free : H' s.heap.objs.size = none) (sb : Heap.SameBut s.heap.objs.size s'.heap h') : Inv X pins σ' H' { s' with heap := h' } :=
  J.turned (it := s.heap.objs.size) (t' := s'.toks) (fun b o hb e => (sb.2 b hb).trans e) free (Nat.ne_of_gt I.lt) (.inr I.sz)
    (fun x c e z => by
      obtain ⟨v, q⟩ := I.cell x c e
      exact absurd (z ▸ q.lt) (Nat.lt_irrefl _))
    (fun p hp z => absurd (z ▸ Heap.lt_size (I.pin p hp).1) (Nat.lt_irrefl _))
end
section
variable {prog : Program} {w : World} {A : Around} {R : Result → Shared → Prop} {s : Shared}
theorem compLoop_any {elt target iter : Expr} {ifs : List Expr} {scope : Scope} {pos : Pos} {it acc : Value} {env : Env} (I : Nat → Shared → Prop)
    (turn : ∀ n s, I n s → wpAny (model prog w) A (pyNext it) (fun r s₁ => match r with
      | none => R (.ok .next) s₁
      | some v => wpAny (model prog w) A (letOwnedTupleGo target it v) (fun _ s₁' => wpAny (model prog w) A (assign target env v) (fun _ s₂ =>
          wpAny (model prog w) A (forIn ifs true fun c r => if r = true then do let ok ← isTrue c env (eval c env); pure (ForInStep.yield ok) else pure (ForInStep.yield r)) (fun ok s₃ =>
            if ok = true then wpAny (model prog w) A (eval elt env) (fun x s₄ =>
              wpAny (model prog w) A (call (.builtin "list.append") [acc, x]) (fun _ s₅ => ∃ m, m < n ∧ I m s₅) (notedBy (model prog w) A env fun e s' => R (.error e) s') s₄) (notedBy (model prog w) A env fun e s' => R (.error e) s') s₃
            else ∃ m, m < n ∧ I m s₃) (notedBy (model prog w) A env fun e s' => R (.error e) s') s₂) (notedBy (model prog w) A env fun e s' => R (.error e) s') s₁') (notedBy (model prog w) A env fun e s' => R (.error e) s') s₁)
        (notedBy (model prog w) A env fun e s' => R (.error e) s') s)
    (n : Nat) (h : I n s) :
    codeAny (model prog w) A (.compLoop (.ListComp elt [⟨target, iter, ifs, 0⟩] scope pos) 0 it acc env) R s := by
  refine codeAny_loop rfl I (fun n s hI => ?_) n h
  show wpAny _ A ((compTurn (.ListComp elt [⟨target, iter, ifs, 0⟩] scope pos) 0 it acc env).onRaise (fun x => do noteFrame x env; theTreesLotGoes x)) _ _ s
  refine wpAny_noted ?_
  rw [compTurn_list]
  refine wpAny_bind (wpAny_standAt (wpAny_bind (wpAny_mono (turn n s hI) (fun r s₁ h₁ => ?_) fun _ _ h' => h')))
  cases r with
  | none => exact wpAny_pure h₁
  | some v =>
    refine wpAny_bind (wpAny_mono h₁ (fun _ s₁' h₁' => ?_) fun _ _ h' => h')
    refine wpAny_bind (wpAny_mono h₁' (fun _ s₂ h₂ => wpAny_bind (wpAny_mono h₂ (fun ok s₃ h₃ => ?_) fun _ _ h' => h')) fun _ _ h' => h')
    cases ok with
    | false => exact wpAny_pure ⟨rfl, h₃⟩
    | true =>
      exact wpAny_bind (wpAny_bind (wpAny_mono h₃ (fun x s₄ h₄ => wpAny_bind (wpAny_mono h₄ (fun _ s₅ h₅ => wpAny_pure (wpAny_pure ⟨rfl, h₅⟩)) fun _ _ h' => h')) fun _ _ h' => h'))
end
def PIfs (X : Cx) (ifs : List Expr) (t : TT) : Prop :=
  ∀ (pins : List (Addr × Obj)) (s : Shared) (σ : St) (H : Hp) (Q : Bool → Hp → Prop), Inv X pins σ H s → t σ H Q →
    wpAny (model X.prog X.w) X.A (forIn ifs true fun c r => if r = true then do let ok ← isTrue c X.env (eval c X.env); pure (ForInStep.yield ok) else pure (ForInStep.yield r)) (TP X pins σ Q) X.xe s
def tNoIf : TT := fun _ H Q => Q true H
theorem pif0 {X : Cx} : PIfs X [] tNoIf := fun pins s σ H Q I h => wpAny_tests_nil ⟨H, I, h⟩
theorem pif1 {X : Cx} {c : Expr} {t : TT} (h : PT X c t) : PIfs X [c] t := fun pins s σ H Q I q => wpAny_tests_one (h pins s σ H Q I q)
def LC (n : Nat) (fr : St) (g : TG) (tc : TT) (te : TE) (J : It) (D : Addr) (H1 : Hp) (Q : Hp → Prop) : Prop :=
  ∃ W : Nat → Nat → Hp → Prop, (∃ m, W 0 m (upd H1 D (.lst []))) ∧ ∀ i m H, W i m H →
    (J.stop i H ∧ Q H) ∨ (J.go i H ∧ ∀ (τ : St) x H', τ.length = n → J.yld i H x H' → g x (τ ++ fr) H' fun σ2 H2 => (∃ τ' : St, τ'.length = n ∧ σ2 = τ' ++ fr) ∧ tc σ2 H2 fun b H3 =>
      if b = true then te σ2 H3 fun y H4 => ∃ ys, H4 D = some (.lst ys) ∧ ys.length < sizeLine ∧ ∃ m', m' < m ∧ W (i + 1) m' (upd H4 D (.lst (ys ++ [y]))) else ∃ m', m' < m ∧ W (i + 1) m' H3)
def tLC (n : Nat) (ix : List Nat) (wi : TI) (g : TG) (tc : TT) (te : TE) : TE := fun σ H Q => wi σ H fun J H1 => ∀ D, H1 D = none → LC n (frOf ix σ) g tc te J D H1 fun H' => Q (.ref D) H'
section
variable {X : Cx} {scope : Scope} {own fr : List Str} {ix : List Nat} {cl : List (Str × Addr)} {elt iter tg : Expr} {ifs : List Expr} {pos : Pos} {wi : TI} {g : TG} {tc : TT} {te : TE}
theorem comp_block {E : Value → Shared → Prop} {RR : Value → Addr → Result → Shared → Prop} (C : ClOk X scope own fr ix cl) (hc : X.calm = true)
    (hg : ∀ fp s H, PG (cxC X scope cl (own ++ fr) fp s H) tg g) (ht : ∀ fp s H, PIfs (cxC X scope cl (own ++ fr) fp s H) ifs tc) (he : ∀ fp s H, PE (cxC X scope cl (own ++ fr) fp s H) elt te)
    {pins : List (Addr × Obj)} {σ : St} {H2 : Hp} {s2 : Shared} {it : Addr} {fp : List Addr} {tn : Nat → Heap → Prop} {J : It} {Q : Hp → Prop} (I2 : Inv X pins σ H2 s2) (T : Turn X.prog X.w X.K tg J fp it tn) (st2 : tn 0 s2.heap) (f2 : ∀ b ∈ fp, FpOk X pins H2 b)
    (q : LC own.length (frOf ix σ) g tc te J s2.heap.objs.size H2 Q)
    (hRR : ∀ (s3 s' : Shared) (H3 H' : Hp) (τ : St), Inv X pins σ H3 s3 → Inv X pins σ H' s' → H' s3.heap.objs.size = none → (∃ m, s'.heap.Ns s3.heap.objs.size m) → Q H' → RR (.ref s2.heap.objs.size) s3.heap.objs.size (.ok .next) s') :
    wpAny (model X.prog X.w) X.A (newList []) (fun acc s₃ => wpAny (model X.prog X.w) X.A (newFunctionEnv scope X.env.globals cl [] X.env.qual none .none (some X.env)) (fun cenv s₄ =>
      codeAny (model X.prog X.w) X.A (.compStart (.ListComp elt [⟨tg, iter, ifs, 0⟩] scope pos) 0 (.ref it) acc { cenv with scope := relabel scope X.env }) (RR acc cenv.locals) s₄) E s₃) E s2 := by
  refine wpAny_newObj_type ?_
  have I3 : Inv X pins σ (upd H2 s2.heap.objs.size (.lst [])) { s2 with heap := s2.heap.push { cls := .type "list", dict := none, data := .seq ([] : List Value).toArray } } := I2.lnew (t' := s2.toks) (its := []) .nil (Nat.zero_le _)
  have lt2 : ∀ b ∈ fp, b < s2.heap.objs.size := fun b hb => by
    obtain ⟨o, e, _⟩ := T.obj 0 _ st2 b hb
    exact Heap.lt_size e
  have fneD : ∀ b ∈ fp, b ≠ s2.heap.objs.size := fun b hb => Nat.ne_of_lt (lt2 b hb)
  generalize hs3 : ({ s2 with heap := s2.heap.push { cls := .type "list", dict := none, data := .seq ([] : List Value).toArray } } : Shared) = s3 at I3 ⊢
  have hsz : s3.heap.objs.size = s2.heap.objs.size + 1 := by rw [← hs3]; exact Heap.size_push ..
  have kp23 : ∀ b o, s2.heap.get? b = some o → s3.heap.get? b = some o := fun b o e => by rw [← hs3]; exact Heap.get?_push_of_some _ e
  have f3 : ∀ b ∈ fp, FpOk X pins (upd H2 s2.heap.objs.size (.lst [])) b := fun b hb => by
    obtain ⟨f0, fr⟩ := f2 b hb
    exact ⟨by rw [upd_ne (fneD b hb)]; exact f0, fr⟩
  have lt3 : ∀ b ∈ fp, b < s3.heap.objs.size := fun b hb => by rw [hsz]; exact Nat.lt_succ_of_lt (lt2 b hb)
  refine wpAny_newFunctionEnv C.nocell' (by intro y hy; simp at hy) (fun h₁ hns₁ hsb₁ => ?_) C.kind
  have k34 : ∀ b o, s3.heap.get? b = some o → h₁.get? b = some o := fun b o e =>
    (hsb₁.2 b (Nat.ne_of_lt (Heap.lt_size e))).trans (Heap.get?_push_of_some _ e)
  have I4 := inv_comp C I3 f3 lt3 (t := s3.toks + ([] : List (Str × Value)).length) hns₁ k34
  have st4 : tn 0 h₁ := T.keep 0 _ _ st2 fun b _ o e => k34 b o (kp23 b o e)
  obtain ⟨W, ⟨m0, w0⟩, turn⟩ := q
  have loop : ∀ s4 : Shared, s4 = { s3 with heap := h₁, toks := s3.toks + ([] : List (Str × Value)).length } →
      codeAny (model X.prog X.w) X.A (.compLoop (.ListComp elt [⟨tg, iter, ifs, 0⟩] scope pos) 0 (.ref it) (.ref s2.heap.objs.size) (compEnvC scope cl s3.heap.objs.size X.env)) (RR (.ref s2.heap.objs.size) s3.heap.objs.size) s4 := by
    rintro s4 rfl
    have stat : ∀ {H' : Hp}, (∀ b ∈ fp, H' b = none) → ∀ b ∈ fp, FpOk (cxC X scope cl (own ++ fr) fp s3 (upd H2 s2.heap.objs.size (.lst []))) [] H' b := fun {H'} hn b hb =>
      ⟨hn b hb, Nat.ne_of_lt (lt3 b hb), I4.ok.exfs b hb, .inl hb, (I4.ok.exf b hb).2, fun p hp => by cases hp⟩
    refine compLoop_any (fun n s' => ∃ i τ H', τ.length = own.length ∧ Inv (cxC X scope cl (own ++ fr) fp s3 (upd H2 s2.heap.objs.size (.lst []))) [] (τ ++ frOf ix σ) H' s' ∧ tn i s'.heap ∧ (∀ b ∈ fp, H' b = none) ∧ W i n H') ?_ m0
      ⟨0, List.replicate own.length none, _, List.length_replicate, I4, st4, fun b hb => (f3 b hb).1, w0⟩
    rintro n s5 ⟨i, τ, H5, hτ, I5, st5, fr5, w5⟩
    rcases turn i n H5 w5 with ⟨stop, qn⟩ | ⟨go, step⟩
    · refine wpAny_mono (T.done (cxC X scope cl (own ++ fr) fp s3 (upd H2 s2.heap.objs.size (.lst []))) rfl rfl rfl hc i [] s5 _ H5 (fun _ _ => False) I5 (stat fr5) st5 stop) (fun r s6 ⟨hr, I6⟩ => ?_) fun _ _ z => z.elim
      subst hr
      obtain ⟨mm, hmm, _⟩ := I6.loc
      exact hRR s3 s6 _ H5 τ I3 (inv_back I3 f3 I6) I6.free ⟨mm, hmm⟩ qn
    · refine wpAny_mono (T.item (cxC X scope cl (own ++ fr) fp s3 (upd H2 s2.heap.objs.size (.lst []))) rfl rfl rfl hc i [] s5 _ H5 (fun _ _ => False) I5 (stat fr5) st5 go) (fun r s6 ⟨u, hr, h6⟩ => ?_) fun _ _ z => z.elim
      subst hr
      refine wpAny_mono h6 (fun _ s7 ⟨x, H7, I7, r7, y7, st7, fr7⟩ => ?_) fun _ _ z => z.elim
      have I7' := I7.pinned (stat fr7) (T.obj _ _ st7)
      refine wpAny_mono (hg fp s3 _ _ s7 _ H7 x u _ I7' r7 (step τ x H7 hτ y7)) (fun _ s8 ⟨σ8, H8, I8, ⟨τ', hτ', e8⟩, q8⟩ => ?_) fun _ _ z => z.elim
      have fin : ∀ {H9 : Hp} {s9 : Shared}, Inv (cxC X scope cl (own ++ fr) fp s3 (upd H2 s2.heap.objs.size (.lst []))) ([] ++ pinsAt fp s7.heap) σ8 H9 s9 → (∃ m', m' < n ∧ W (i + 1) m' H9) →
          ∃ m, m < n ∧ ∃ i τ H', τ.length = own.length ∧ Inv (cxC X scope cl (own ++ fr) fp s3 (upd H2 s2.heap.objs.size (.lst []))) [] (τ ++ frOf ix σ) H' s9 ∧ tn i s9.heap ∧ (∀ b ∈ fp, H' b = none) ∧ W i m H' := fun {H9 s9} I9 hw => by
        obtain ⟨m', hm, w9⟩ := hw
        refine ⟨m', hm, i + 1, τ', H9, hτ', e8 ▸ I9.unpinned, T.keep _ _ _ st7 fun b hb o e => (I9.pin (b, o) (List.mem_append_right _ (List.mem_append_right _ (mem_pinsAt hb e)))).1, fun b hb => ?_, w9⟩
        obtain ⟨o, e, d⟩ := T.obj _ _ st7 b hb
        exact (I9.pin (b, o) (List.mem_append_right _ (List.mem_append_right _ (mem_pinsAt hb e)))).2.1
      refine wpAny_mono (ht fp s3 _ _ s8 σ8 H8 _ I8 q8) (fun ok s9 ⟨H9, I9, q9⟩ => ?_) fun _ _ z => z.elim
      cases ok with
      | false => exact fin I9 q9
      | true =>
        refine wpAny_mono (he fp s3 _ _ s9 σ8 H9 _ I9 q9) (fun y s10 ⟨v10, H10, I10, r10, ys, hD, hz, q10⟩ => ?_) fun _ _ z => z.elim
        refine wpAny_mono (mt_append (X := cxC X scope cl (own ++ fr) fp s3 (upd H2 s2.heap.objs.size (.lst []))) _ s10 σ8 H10 (.ref s2.heap.objs.size) [v10] _ [y] (fun _ H' => ∃ m', m' < n ∧ W (i + 1) m' H') I10 rfl (.cons r10 .nil) ⟨_, ys, v10, rfl, rfl, hD, hz, q10⟩) (fun _ s11 ⟨_, H11, I11, _, q11⟩ => ?_) fun _ _ z => z.elim
        exact fin I11 q11
  exact codeAny_compStart_list (loop _ rfl) (T.self _ 0 _ _ _ st4 (loop _ rfl))
theorem pe_lc (C : ClOk X scope own fr ix cl) (hc : X.calm = true) (hi : PI X tg iter wi) (hg : ∀ fp s H, PG (cxC X scope cl (own ++ fr) fp s H) tg g)
    (ht : ∀ fp s H, PIfs (cxC X scope cl (own ++ fr) fp s H) ifs tc) (he : ∀ fp s H, PE (cxC X scope cl (own ++ fr) fp s H) elt te)
    (hs : ∀ x, foldedSetIterable iter X.env x = pure x := by intro _; rfl) : PE X (.ListComp elt [⟨tg, iter, ifs, 0⟩] scope pos) (tLC own.length ix wi g tc te) := by
  intro pins s σ H Q I h
  rw [eval_ListComp]
  refine wpAny_comprehension_free (use := none) rfl hs C.clos C.kind C.names' (thn (hi pins s σ H _ I h) fun v s1 h1 => thn h1 fun itv s2 h2 => ?_)
  obtain ⟨it, fp, tn, J, H2, e, I2, T, st2, f2, q⟩ := h2
  subst e
  refine comp_block (RR := fun acc D => compPost (model X.prog X.w) X.A X.xe none (EP X pins σ Q) acc D) C hc hg ht he I2 T st2 f2 (q _ (I2.hok.fresh (Nat.le_refl _))) fun s3 s' H3 H' τ I3 I' hn hm q' => ?_
  obtain ⟨m, hm⟩ := hm
  exact ⟨m, hm, fun h' sb => ⟨.ref s2.heap.objs.size, H', inv_gone I3 I' hn sb, rfl, q'⟩⟩
def tSetLC (i n : Nat) (ix : List Nat) (wi : TI) (g : TG) (tc : TT) (te : TE) : TS := fun D σ H => wi σ H fun J H1 => ∀ l, H1 l = none → LC n (frOf ix σ) g tc te J l H1 fun H' => D.nx (σ.set i (some (.ref l))) H'
end
end L2
namespace L2
open PySem PySem.Spec PyProof.Rows
def Its (z : Str) : It := ⟨fun i _ => i < z.cps.size, fun i H x H' => H' = H ∧ ∃ c, z.cps[i]? = some c ∧ x = .str ⟨#[c]⟩, fun i _ => i = z.cps.size⟩
def iStr (tl : TE) : TI := fun σ H R => tl σ H fun x H1 => ∃ z, x = .str z ∧ R (Its z) H1
section
variable {X : Cx} {tg : Expr}
end
theorem range_all (bs : List Bool) (tr : Nat → Bool) (h : ∀ (i : Nat) b, bs[i]? = some b → tr i = b) : (List.range bs.length).all tr = bs.all id := by
  apply Bool.eq_iff_iff.mpr
  constructor
  · intro h1
    refine List.all_eq_true.mpr fun b hb => ?_
    obtain ⟨i, hi⟩ := List.getElem?_of_mem hb
    have hl : i < bs.length := (List.getElem?_eq_some_iff.mp hi).1
    have := List.all_eq_true.mp h1 i (List.mem_range.mpr hl)
    rw [h i b hi] at this
    exact this
  · intro h1
    refine List.all_eq_true.mpr fun i hi => ?_
    have hl : i < bs.length := List.mem_range.mp hi
    have hg : bs[i]? = some bs[i] := List.getElem?_eq_getElem hl
    rw [h i _ hg]
    exact List.all_eq_true.mp h1 _ (List.getElem_mem hl)
section
variable {X : Cx}
theorem call_all_list (hc : X.calm = true) : CallR X (.builtin "all") (fun xs H Q => ∃ p bs, xs = [.ref p] ∧ SqL X.K H p (List.map V.bl bs) ∧ Q (.bl (bs.all id)) H) := by
  intro pins s σ H xs us Q I r h
  obtain ⟨p, bs, rfl, hq, q⟩ := h
  obtain ⟨u, rfl, rx⟩ := vals1 r
  cases rx
  obtain ⟨its, rv, pl, hz⟩ := I.list hq
  have hlen : bs.length = its.length := by rw [← rv.length, List.length_map]
  refine call_all_walk (wpAny_pyIter_list pl.isList ?_)
  have hne : p ≠ s.heap.objs.size := by
    obtain ⟨o, n, e, _⟩ := pl
    exact Nat.ne_of_lt (Heap.lt_size e)
  have I1 : Inv X pins σ H { s with heap := s.heap.push { cls := .type "list_iterator", data := .fields #[.ref p, .int 0 0] } } := I.kept (t' := s.toks) fun b o e => Heap.get?_push_of_some _ e
  have fp := I.fpOk (H' := H) (Nat.le_refl s.heap.objs.size) (I.hok.fresh (Nat.le_refl _))
  obtain ⟨f0, f1, f2, f3, f4, f5⟩ := fp
  refine ⟨s.heap.objs.size, _, _, its.toArray.size, _, _, fun i => (bs[i]?).getD false, rfl, Walks.list (A := X.A.in1) (by show X.A.handled = none; exact I.ok.hd hc) s.heap.objs.size p hne its.toArray, ⟨⟨_, Heap.get?_push_size _ rfl, rfl, rfl⟩, ?_⟩, ?_, fun h' tk kk => ?_⟩
  · obtain ⟨o, ho, r⟩ := pl.isList
    exact ⟨o, Heap.get?_push_of_some _ ho, r⟩
  · intro i v s' Q' E' hv hQ
    have hv' : its[i]? = some v := by simpa using hv
    have hi : i < bs.length := by rw [hlen]; exact (List.getElem?_eq_some_iff.mp hv').1
    have hb : (bs.map V.bl)[i]? = some (V.bl bs[i]) := by rw [List.getElem?_map, List.getElem?_eq_getElem hi]; rfl
    obtain ⟨u', hu', ru'⟩ := rv.get hb
    rw [hv'] at hu'
    cases hu'
    cases ru'
    dsimp only at hQ
    rw [List.getElem?_eq_getElem hi] at hQ
    exact wpAny_truthy_bool hQ
  · rw [List.size_toArray, ← hlen, range_all bs _ (fun i b e => by rw [e]; rfl)]
    exact ⟨.bl _, H, I1.turned (it := s.heap.objs.size) (fun b o hb e => kk b o (by simpa using hb) e) f0 f1 f3 f4 f5, rfl, q⟩
end
def cutS (z : Str) (lo hi : Option Int) : Str := ⟨((z.cps.toList.drop (HT.sIx z.length 0 lo)).take (HT.sIx z.length z.length hi - HT.sIx z.length 0 lo)).toArray⟩
section
variable {X : Cx}
def rSlS : V → Option Int → Option Int → Hp → VK → Prop := fun x lo hi H Q => ∃ z, x = .str z ∧ z.length ≤ sizeLine ∧ Q (.str (cutS z lo hi)) H
def mulS (z : Str) (n : Nat) : Str := ⟨(List.replicate n z.cps.toList).flatten.toArray⟩
theorem foldl_cat (x : List Nat) : ∀ (n : Nat) (acc : Array Nat), (List.replicate n x.toArray).foldl (· ++ ·) acc = acc ++ (List.replicate n x).flatten.toArray
  | 0, acc => by simp
  | n + 1, acc => by
    rw [List.replicate_succ, List.foldl_cons, foldl_cat x n, List.replicate_succ, List.flatten_cons]
    apply Array.toList_inj.mp
    simp
theorem mulS_eq (z : Str) (n : Int) (h : 0 ≤ n) : Txt.mul z n = mulS z n.toNat := by
  unfold Txt.mul mulS
  by_cases h1 : n < 1
  · rw [if_pos h1]
    have e : n.toNat = 0 := by omega
    rw [e]
    rfl
  · rw [if_neg h1]
    by_cases h2 : (n == 1 || z.length == 0) = true
    · rw [if_pos h2]
      rw [Bool.or_eq_true] at h2
      rcases h2 with h2 | h2
      · have e : n = 1 := eq_of_beq h2
        subst e
        show z = ⟨(List.replicate 1 z.cps.toList).flatten.toArray⟩
        simp
      · have e : z.length = 0 := eq_of_beq h2
        have e0 : z.cps = #[] := Array.eq_empty_of_size_eq_zero e
        cases z with
        | mk c => cases e0; simp
    · rw [if_neg h2]
      have e := foldl_cat z.cps.toList n.toNat #[]
      have e3 : z.cps.toList.toArray = z.cps := by simp
      rw [e3] at e
      rw [e]
      simp
theorem op_mul_str : OpR X (binaryOp .Mult) (fun x y H Q => ∃ z n, x = .str z ∧ y = .int n ∧ 0 ≤ n ∧ n ≤ 1000 ∧ z.length ≤ 1000 ∧ Q (.str (mulS z n.toNat)) H) := by
  intro pins s σ H x y v u Q I rx ry h
  obtain ⟨z, n, rfl, rfl, h0, h1, h2, q⟩ := h
  obtain ⟨t, rfl⟩ := rx
  obtain ⟨t', rfl⟩ := ry
  have hb : z.length * n.toNat ≤ 1000 * 1000 := Nat.mul_le_mul h2 (by omega)
  refine SB.mul ⟨by rw [Bool.or_eq_false_iff]; exact ⟨decide_eq_false (by omega), decide_eq_false (by omega)⟩, fun hn1 _ => ?_, fun _ _ => ?_⟩ fun t' k => ⟨.str _, H, I.tok _, ⟨_, rfl⟩, by rw [mulS_eq z n h0]; exact q⟩
  · have hp : 0 < n := by omega
    have h3 : (z.length : Int) * n ≤ 1000 * n := Int.mul_le_mul_of_nonneg_right (by omega) h0
    have h4 : (z.length : Int) ≤ (2 ^ 63 - 1) / n := Int.le_ediv_of_mul_le hp (by omega)
    omega
  · unfold Builtin.Str.tooLong
    exact decide_eq_false (by have := sizeLine_eq; omega)
theorem call_isinst : CallR X (.builtin "isinstance") (fun xs H Q => ∃ x n t b, xs = [x, .ty n] ∧ TyOf X.K H x t ∧ PySem.W.kitOne X.K t (.type n) = some b ∧ Q (.bl b) H) := by
  intro pins s σ H xs us Q I r h
  obtain ⟨x, n, t, b, rfl, ty, e, q⟩ := h
  obtain ⟨u, u2, rfl, r1, r2⟩ := vals2 r
  cases (show u2 = Value.type n from r2)
  exact isinst_ok I r1 ty e fun tk => ⟨.bl b, H, I.tok tk, rfl, q⟩
end
end L2
namespace L2
open PySem PySem.Spec PyProof.Rows
theorem same_new {H : Hp} {p : Addr} (h : H p = none) (o : HO) : Same H (upd H p o) := fun b u q => by rw [upd_ne (ne_of_none q h)]; exact q
theorem Same.upd {H H' : Hp} {p : Addr} (e : Same H H') (h : H p = none) (o : HO) : Same H (L2.upd H' p o) := fun b u q => by rw [upd_ne (ne_of_none q h)]; exact e b u q
theorem Same.tup {K : PySem.W.Frag} {H H' : Hp} {a : Addr} {xs : List V} (e : Same H H') (h : SqT K H a xs) : SqT K H' a xs := by
  rcases h with (h | ⟨o, h⟩) | h
  · exact .inl (.inl (e _ _ h))
  · exact .inl (.inr ⟨o, e _ _ h⟩)
  · exact .inr h
def Has (P : Program) (w : World) (K : PySem.W.Frag) (mg : Str → Option Value) (base : Heap) (k : Nat) (x : Str) (ps : List Str) (sp : Sp) : Prop :=
  ∃ (f : Addr) (fd : FuncData), FnOk P w K mg base CX0 k f fd ps sp ∧ Binds K fd ps [] ∧ PySem.W.keepIn K (.ref f) = true ∧ mg x = some (.ref f)
theorem Has.up {P : Program} {w : World} {K : PySem.W.Frag} {mg : Str → Option Value} {base : Heap} {j k : Nat} {x : Str} {ps : List Str} {sp : Sp} (h : Has P w K mg base j x ps sp) (l : j ≤ k) : Has P w K mg base k x ps sp := by
  obtain ⟨f, fd, F, r⟩ := h
  exact ⟨f, fd, F.mono l, r⟩
def Def (K : PySem.W.Frag) (mg : Str → Option Value) (x : Str) (st : Stmt) (ps : List Str) : Prop :=
  ∃ (f : Addr) (fd : FuncData), Fun K x x st f fd ∧ Binds K fd ps [] ∧ mg x = some (.ref f)
theorem Def.has {P : Program} {w : World} {K : PySem.W.Frag} {mg : Str → Option Value} {base : Heap} {k : Nat} {x : Str} {st : Stmt} {N ps : List Str} {sp : Sp} (D : Def K mg x st ps) (S : FnScope N ps (defScope st)) (len : ∀ vs H Q E, sp vs H Q E → vs.length = ps.length)
    (hbody : ∀ (f : Addr) (cdv : Value) (A : Around) (outer : List Env) (s : Shared) (H : Hp) (vs : List V) (Q : VK) (E : XK), Room k (A.deeper (envOfC x (defScope st) s.heap.objs.size f cdv)) → sp vs H Q E →
      ∃ t, PSs (cxOf CX0 P w K mg base N x (defScope st) f cdv A outer s H E).nox (defBody st) t ∧ t { nx := fun _ H' => Q .non H', rt := Q } (start N vs) H) : Has P w K mg base (k + 1) x ps sp := by
  obtain ⟨f, fd, F, b, m⟩ := D
  exact ⟨f, fd, F.ok S len fun cdv A outer s H vs Q E hr h => hbody f cdv A outer s H vs Q E hr h, b, F.kp, m⟩
section
variable {X : Cx} {k : Nat} {ps : List Str} {sp : Sp} {x : Str} {p pos : Pos} {e : Expr} {es : List Expr} {t : TA}
theorem pe_has (h : Has X.prog X.w X.K X.mg X.base k x ps sp) (hr : Room k X.A) (ha : PA X (e :: es) t) (hg : Gl X x := by rfl) (hdb : (x == ("__debug__" : Str)) = false := by decide +kernel)
    (he : starEach (e :: es) X.env = (false, eval e X.env) :: starEach es X.env := by rfl) (hpl : (backTo pos (starEach es X.env)).any (·.1) = false := by rfl) :
    PE X (.Call (.Name x p) (e :: es) [] pos) (tCall sp [] E0 t) := by
  obtain ⟨f, fd, F, b, kp, m⟩ := h
  exact pe_call F hr hg m kp b .nil pass0 ha hdb he hpl
end
theorem lc_gen {J : It} {fr : St} {tc : TT} {te : TE} {D : Addr} {H1 : Hp} {Q : Hp → Prop} (n : Nat) (item : Nat → V) (P : Nat → List V → Prop) (hn : n < sizeLine) (hD : H1 D = none)
    (hgo : ∀ i H, i < n → Same H1 H → J.go i H) (hyld : ∀ i H x H', i < n → Same H1 H → J.yld i H x H' → H' = H ∧ x = item i) (hstop : ∀ H, Same H1 H → J.stop n H)
    (h0 : P 0 [])
    (step : ∀ i ys H (G : Hp → Prop) (K' : V → Hp → Prop), i < n → P i ys → ys.length ≤ i → Same H1 H → (∀ H3, Same H H3 → P (i + 1) ys → G H3) → (∀ y H4, Same H H4 → P (i + 1) (ys ++ [y]) → K' y H4) → tc ([some (item i)] ++ fr) H fun b H3 => if b = true then te ([some (item i)] ++ fr) H3 K' else G H3)
    (done : ∀ ys H, P n ys → ys.length ≤ n → Same H1 H → H D = some (.lst ys) → Q H) : LC 1 fr (gName 0) tc te J D H1 Q := by
  refine ⟨fun i m H => m = n - i ∧ i ≤ n ∧ ∃ ys, H D = some (.lst ys) ∧ P i ys ∧ ys.length ≤ i ∧ Same H1 H, ⟨n, by simp, Nat.zero_le _, [], upd_same, h0, Nat.le_refl _, same_new hD _⟩, ?_⟩
  rintro i m H ⟨rfl, hi, ys, hys, hP, hl, hS⟩
  by_cases hlt : i < n
  · refine .inr ⟨hgo i H hlt hS, fun τ x H' hτ hy => ?_⟩
    obtain ⟨e1, e2⟩ := hyld i H x H' hlt hS hy
    subst e1 e2
    obtain ⟨a, rfl⟩ : ∃ a, τ = [a] := by
      match τ, hτ with
      | [a], _ => exact ⟨a, rfl⟩
    refine ⟨⟨[some (item i)], rfl, rfl⟩, step i ys H' (fun H3 => ∃ m', m' < n - i ∧ m' = n - (i + 1) ∧ i + 1 ≤ n ∧ ∃ ys, H3 D = some (.lst ys) ∧ P (i + 1) ys ∧ ys.length ≤ i + 1 ∧ Same H1 H3)
      (fun y H4 => ∃ zs, H4 D = some (.lst zs) ∧ zs.length < sizeLine ∧ ∃ m', m' < n - i ∧ m' = n - (i + 1) ∧ i + 1 ≤ n ∧ ∃ ys, upd H4 D (.lst (zs ++ [y])) D = some (.lst ys) ∧ P (i + 1) ys ∧ ys.length ≤ i + 1 ∧ Same H1 (upd H4 D (.lst (zs ++ [y])))) hlt hP hl hS (fun H3 q1 q2 => ?_) (fun y H4 q1 q2 => ?_)⟩
    · exact ⟨n - (i + 1), by omega, rfl, hlt, ys, q1 _ _ hys, q2, Nat.le_succ_of_le hl, hS.trans q1⟩
    · refine ⟨ys, q1 _ _ hys, by omega, n - (i + 1), by omega, rfl, hlt, ys ++ [y], upd_same, q2, ?_, (hS.trans q1).upd hD _⟩
      rw [List.length_append, List.length_singleton]
      omega
  · have e : i = n := by omega
    subst e
    exact .inl ⟨hstop H hS, done ys H hP hl hS hys⟩
theorem lc_list {K : PySem.W.Frag} {a : Addr} {xs : List V} {fr : St} {tc : TT} {te : TE} {D : Addr} {H1 : Hp} {Q : Hp → Prop} (P : Nat → List V → Prop) (hS : SqL K H1 a xs) (hn : xs.length < sizeLine) (hD : H1 D = none) (h0 : P 0 [])
    (step : ∀ i x ys H (G : Hp → Prop) (K' : V → Hp → Prop), xs[i]? = some x → P i ys → ys.length ≤ i → Same H1 H → (∀ H3, Same H H3 → P (i + 1) ys → G H3) → (∀ y H4, Same H H4 → P (i + 1) (ys ++ [y]) → K' y H4) → tc ([some x] ++ fr) H fun b H3 => if b = true then te ([some x] ++ fr) H3 K' else G H3)
    (done : ∀ ys H, P xs.length ys → ys.length ≤ xs.length → Same H1 H → H D = some (.lst ys) → Q H) : LC 1 fr (gName 0) tc te (Itl K a) D H1 Q := by
  have at' : ∀ i, i < xs.length → xs[i]? = some (xs.getD i .non) := fun i hi => by
    rw [List.getD_eq_getElem?_getD, List.getElem?_eq_getElem hi]
    rfl
  exact lc_gen xs.length (fun i => xs.getD i .non) P hn hD (fun i H hi hs => ⟨xs, _, hs.seq hS, at' i hi⟩)
    (fun i H x H' hi hs hy => ⟨hy.1, Option.some.inj ((hy.2 xs (hs.seq hS)).symm.trans (at' i hi))⟩) (fun H hs => ⟨xs, hs.seq hS, Nat.le_refl _⟩) h0
    (fun i ys H G K' hi hp hl hs hG hK => step i _ ys H G K' (at' i hi) hp hl hs hG hK) done
theorem lc_tup {K : PySem.W.Frag} {a : Addr} {xs : List V} {fr : St} {tc : TT} {te : TE} {D : Addr} {H1 : Hp} {Q : Hp → Prop} (P : Nat → List V → Prop) (hS : SqT K H1 a xs) (hn : xs.length < sizeLine) (hD : H1 D = none) (h0 : P 0 [])
    (step : ∀ i x ys H (G : Hp → Prop) (K' : V → Hp → Prop), xs[i]? = some x → P i ys → ys.length ≤ i → Same H1 H → (∀ H3, Same H H3 → P (i + 1) ys → G H3) → (∀ y H4, Same H H4 → P (i + 1) (ys ++ [y]) → K' y H4) → tc ([some x] ++ fr) H fun b H3 => if b = true then te ([some x] ++ fr) H3 K' else G H3)
    (done : ∀ ys H, P xs.length ys → ys.length ≤ xs.length → Same H1 H → H D = some (.lst ys) → Q H) : LC 1 fr (gName 0) tc te (Itt K a) D H1 Q := by
  have at' : ∀ i, i < xs.length → xs[i]? = some (xs.getD i .non) := fun i hi => by
    rw [List.getD_eq_getElem?_getD, List.getElem?_eq_getElem hi]
    rfl
  exact lc_gen xs.length (fun i => xs.getD i .non) P hn hD (fun i H hi hs => ⟨xs, _, hs.tup hS, at' i hi⟩)
    (fun i H x H' hi hs hy => ⟨hy.1, Option.some.inj ((hy.2 xs (hs.tup hS)).symm.trans (at' i hi))⟩) (fun H hs => ⟨xs, hs.tup hS, Nat.le_refl _⟩) h0
    (fun i ys H G K' hi hp hl hs hG hK => step i _ ys H G K' (at' i hi) hp hl hs hG hK) done
theorem lc_range {lo : Int} {n : Nat} {fr : St} {tc : TT} {te : TE} {D : Addr} {H1 : Hp} {Q : Hp → Prop} (P : Nat → List V → Prop) (hn : n < sizeLine) (hD : H1 D = none) (h0 : P 0 [])
    (step : ∀ (i : Nat) ys H (G : Hp → Prop) (K' : V → Hp → Prop), i < n → P i ys → ys.length ≤ i → Same H1 H → (∀ H3, Same H H3 → P (i + 1) ys → G H3) → (∀ y H4, Same H H4 → P (i + 1) (ys ++ [y]) → K' y H4) → tc ([some (.int (lo + i))] ++ fr) H fun b H3 => if b = true then te ([some (.int (lo + i))] ++ fr) H3 K' else G H3)
    (done : ∀ ys H, P n ys → ys.length ≤ n → Same H1 H → H D = some (.lst ys) → Q H) : LC 1 fr (gName 0) tc te (Itr lo n) D H1 Q :=
  lc_gen n (fun i => .int (lo + i)) P hn hD (fun i H hi _ => hi) (fun i H x H' hi hs hy => hy) (fun H hs => Nat.le_refl _) h0 step done
end L2
namespace L2
open PySem PySem.Spec PyProof.Rows
section
variable {X : Cx} {x : Str} {pos : Pos}
theorem pe_gref {a : Addr} (hm : X.mg x = some (.ref a)) (hg : Gl X x := by rfl) (hd : (x == ("__debug__" : Str)) = false := by decide +kernel) : PE X (.Name x pos) (tC (.ref a)) := pe_glob hg hm rfl hd
theorem pe_gty {T : String} (hm : X.mg x = none) (hv : bootBuiltins x = some (.type T)) (hg : Gl X x := by rfl) (hn : x ≠ "__name__" := by decide +kernel) (hd : (x == ("__debug__" : Str)) = false := by decide +kernel) : PE X (.Name x pos) (tC (.ty T)) := pe_bltn hg hm hv rfl hn hd
end
theorem b_len : bootBuiltins "len" = some (.builtin "len") := by decide +kernel
theorem b_all : bootBuiltins "all" = some (.builtin "all") := by decide +kernel
theorem b_isinstance : bootBuiltins "isinstance" = some (.builtin "isinstance") := by decide +kernel
theorem b_bool : bootBuiltins "bool" = some (.type "bool") := by decide +kernel
theorem b_int : bootBuiltins "int" = some (.type "int") := by decide +kernel
theorem b_str : bootBuiltins "str" = some (.type "str") := by decide +kernel
theorem b_list : bootBuiltins "list" = some (.type "list") := by decide +kernel
theorem b_tuple : bootBuiltins "tuple" = some (.type "tuple") := by decide +kernel
end L2
namespace L2
open PySem PySem.Spec PyProof.Rows
theorem len_list (z : Str) : z.length = z.cps.toList.length := by
  show z.cps.size = _
  rw [Array.length_toList]
theorem cxOf_K {CX : CXT} {P : Program} {w : World} {K : PySem.W.Frag} {mg : Str → Option Value} {base : Heap} {N : List Str} {qual : Str} {scope : Scope} {f : Addr} {cd : Value} {A : Around} {outer : List Env} {s : Shared} {H : Hp} {E : XK} : (cxOf CX P w K mg base N qual scope f cd A outer s H E).K = K := rfl
theorem nox_K {X : Cx} : X.nox.K = X.K := rfl
end L2
namespace L2
open PySem PySem.Spec PyProof.Rows
theorem slen (z : Str) : z.length = z.cps.toList.length := len_list z
inductive CsOk : List Expr → List V → Prop where
  | nil : CsOk [] []
  | str {x : Str} {j : Nat} {pos : Pos} {es : List Expr} {vs : List V} (h : CsOk es vs) : CsOk (.Constant (.str x) j pos :: es) (.str x :: vs)
  | int {i : Int} {j : Nat} {pos : Pos} {es : List Expr} {vs : List V} (h : CsOk es vs) : CsOk (.Constant (.int i) j pos :: es) (.int i :: vs)
def tVals (vs : List V) : TA := fun _ H Q => Q vs H
theorem pa_const {X : Cx} {es : List Expr} {vs : List V} (h : CsOk es vs) : PA X es (tVals vs) := by
  induction h with
  | nil => exact pa_nil
  | str _ ih => exact pa_cons pe_str ih
  | int _ ih => exact pa_cons pe_int ih
end L2
namespace L2
open PySem PySem.Spec PyProof.Rows
def ForW (g : TG) (tb : TS) (D : Ends) (J : It) (σ : St) (H1 : Hp) : Prop := ∃ W : Nat → Nat → St → Hp → Prop, (∃ m, W 0 m σ H1) ∧ ∀ i m σ H, W i m σ H →
  (J.stop i H ∧ D.nx σ H) ∨ (J.go i H ∧ ∃ N : St → Hp → Prop, (∀ σ' H', N σ' H' → ∃ m', m' < m ∧ W (i + 1) m' σ' H') ∧ ∀ x H', J.yld i H x H' → g x σ H' fun σ2 H2 => tb { D with nx := N, ct := N, bk := D.nx } σ2 H2)
theorem tFor_eq (wi : TI) (g : TG) (tb : TS) (D : Ends) (σ : St) (H : Hp) : tFor wi g tb D σ H = wi σ H fun J H1 => ForW g tb D J σ H1 := rfl
section
variable {K : PySem.W.Frag} {a : Addr} {xs : List V} {g : TG} {tb : TS} {D : Ends} {σ : St} {H : Hp}
theorem forW_list (Pv : Nat → St → Hp → Prop) (h0 : Pv 0 σ H) (hl : ∀ i σ H, i ≤ xs.length → Pv i σ H → SqL K H a xs)
    (hs : ∀ i x σ H, xs[i]? = some x → Pv i σ H → g x σ H fun σ2 H2 => tb { D with nx := Pv (i + 1), ct := Pv (i + 1), bk := D.nx } σ2 H2) (hd : ∀ σ H, Pv xs.length σ H → D.nx σ H) : ForW g tb D (Itl K a) σ H := for_list Pv h0 hl hs hd
theorem forW_tup (Pv : Nat → St → Hp → Prop) (h0 : Pv 0 σ H) (hl : ∀ i σ H, i ≤ xs.length → Pv i σ H → SqT K H a xs)
    (hs : ∀ i x σ H, xs[i]? = some x → Pv i σ H → g x σ H fun σ2 H2 => tb { D with nx := Pv (i + 1), ct := Pv (i + 1), bk := D.nx } σ2 H2) (hd : ∀ σ H, Pv xs.length σ H → D.nx σ H) : ForW g tb D (Itt K a) σ H := for_tup Pv h0 hl hs hd
theorem forW_range {lo : Int} {n : Nat} (Pv : Nat → St → Hp → Prop) (h0 : Pv 0 σ H)
    (hs : ∀ i σ H, i < n → Pv i σ H → g (.int (lo + i)) σ H fun σ2 H2 => tb { D with nx := Pv (i + 1), ct := Pv (i + 1), bk := D.nx } σ2 H2) (hd : ∀ σ H, Pv n σ H → D.nx σ H) : ForW g tb D (Itr lo n) σ H := for_range Pv h0 hs hd
end
end L2
namespace L2
open PySem PySem.Spec PyProof.Rows Builtin Builtin.Str
def ModD (w : World) (K : PySem.W.Frag) (a : Addr) (kvs : List (Key × V)) : Prop :=
  (a == sysModules) = false ∧ ∀ (P : Program) (h : Heap), K.In h → ∃ vs, KV kvs vs ∧ h.DictOf (mixKind P w) a vs
abbrev SIRow := Int × Str × Tok × Int × Tok
def siE (e : SIRow) : DictEntry := ⟨e.1, .str e.2.1 e.2.2.1, .int e.2.2.2.1 e.2.2.2.2⟩
theorem si_pairs (P : Program) (w : World) : ∀ es : List SIRow, Pairs (mixKind P w) (es.map siE) (es.map fun e => ((Sum.inr e.2.1 : Key), Value.int e.2.2.2.1 e.2.2.2.2))
  | [] => .nil
  | e :: r => .cons (mixKind_str P w e.2.1 e.2.2.1) rfl (si_pairs P w r)
theorem si_kv : ∀ es : List SIRow, KV (es.map fun e => ((Sum.inr e.2.1 : Key), V.int e.2.2.2.1)) (es.map fun e => ((Sum.inr e.2.1 : Key), Value.int e.2.2.2.1 e.2.2.2.2))
  | [] => .nil
  | e :: r => .cons ⟨rfl, ⟨_, rfl⟩⟩ (si_kv r)
theorem modD_mk {w : World} {K : PySem.W.Frag} {a : Addr} {ep : Nat} (es : List SIRow) (hl : K.lookup a = some ⟨.type "dict", none, .dict (es.map siE).toArray ep, #[]⟩) (ha : (a == sysModules) = false)
    (hh : ∀ e ∈ es, e.1 = hashStr w e.2.1) (nd : (es.map fun e => (Sum.inr e.2.1 : Key)).Nodup) : ModD w K a (es.map fun e => (Sum.inr e.2.1, V.int e.2.2.2.1)) := by
  refine ⟨ha, fun P h hk => ⟨_, si_kv es, _, _, ep, hk a _ hl, ⟨rfl, rfl, rfl⟩, rfl, fun e he => ?_, by simpa using si_pairs P w es, ?_⟩⟩
  · have he' : e ∈ es.map siE := List.mem_toArray.mp he
    obtain ⟨r, hr, rfl⟩ := List.mem_map.mp he'
    exact ⟨Sum.inr r.2.1, mixKind_str P w r.2.1 r.2.2.1, hh r hr⟩
  · rw [List.map_map]
    exact nd
section
variable {X : Cx} {a : Addr} {kvs : List (Key × V)}
def tMGet2 (kvs : List (Key × V)) (ty tx : TE) : TE := fun σ H Q => ty σ H fun y H2 => tx σ H2 fun z H3 => ∃ k, y = kV k ∧ Q ((valV kvs k).getD z) H3
theorem pe_mget2 {o e f : Expr} {apos cpos : Pos} {ty tx : TE} (ho : PE X o (tC (.ref a))) (md : ModD X.w X.K a kvs) (he : PE X e ty) (hf : PE X f tx) (m : M2 X o "get" apos e f cpos) : PE X (.Call (.Attribute o "get" apos) [e, f] [] cpos) (tMGet2 kvs ty tx) := by
  intro pins s σ H Q I h
  refine wpAny_Call_method m.base m.few m.line PySem.F.plainAttrs_dict PySem.F.slot_dict_get PySem.F.type_dict_get (thn (ho pins s σ H (fun x H1 => x = .ref a ∧ H1 = H) I ⟨rfl, rfl⟩) fun u s1 ⟨x, H1, I1, rx, ex, eH⟩ => ?_)
  subst ex eH
  obtain rfl : u = Value.ref a := rx
  obtain ⟨vs, rel, dd⟩ := md.2 X.prog _ I1.kIn
  refine ⟨dd.typeIs, fun b q => ?_, ?_⟩
  · cases q
    obtain ⟨ob, _, _, h1, h2, _⟩ := dd
    exact ⟨ob, h1, h2.2.1⟩
  rw [m.trees]
  refine Calls.callWith_builtin rfl (Calls.evalArgs_plain (Calls.spliced_cons (thn (he pins s1 σ H1 _ I1 h) fun iv s2 ⟨y, H2, I2, ry, q2⟩ =>
    Calls.spliced_cons (thn (hf pins s2 σ H2 _ I2 q2) fun fv s3 ⟨z, H3, I3, rz, k, ek, q3⟩ => Calls.spliced_nil ?_))))
  subst ek
  obtain ⟨vs', rel', dd'⟩ := md.2 X.prog _ I3.kIn
  refine call_meetsIn PySem.F.slot_dict_get dd'.typeIs PySem.F.entry_dict_get (PySem.F.args_dict_get_3 _ _ _) (meets_dict_get_default (mixKind X.prog X.w) a (kV_is ry) md.1 fv) ⟨_, dd'.mapOf, ⟨_, H3, I3.tok _, ?_, q3⟩⟩
  exact (rel'.val k).getD rz
def textV : V → Str
  | .str z => z
  | .int i => (toString i : String)
  | _ => Str.empty
def wordV : V → Prop
  | .str _ => True
  | .int i => i.natAbs.log2 < 1920
  | _ => False
theorem call_str_any : CallR X (.type "str") (fun xs H Q => ∃ x, xs = [x] ∧ wordV x ∧ Q (.str (textV x)) H) := by
  intro pins s σ H xs us Q I r h
  obtain ⟨x, rfl, hw, q⟩ := h
  obtain ⟨u, rfl, rx⟩ := vals1 r
  cases x with
  | str z => obtain ⟨t, rfl⟩ := rx; exact PySem.P.str_of_str ⟨.str z, H, I, ⟨t, rfl⟩, q⟩
  | int i => obtain ⟨t, rfl⟩ := rx; exact PySem.P.str_of_int hw ⟨.str _, H, I.tok _, ⟨_, rfl⟩, q⟩
  | _ => exact hw.elim
end
end L2
namespace L2
open PySem PySem.Spec PyProof.Rows
section
variable {X : Cx} (K : PySem.W.Frag) (hK : X.K = K)
include hK
theorem ix_listK : IxR X (rIxL K) := by subst hK; exact ix_list
theorem ix_tupK : IxR X (rIxT K) := by subst hK; exact ix_tup
theorem op_in_seqK : OpR X (compareOp .In) (rIn K false) := by subst hK; exact op_in_seq
end
end L2
namespace L2
open PySem PySem.Spec PyProof.Rows
def tMid (t u : TS) : TS := fun D σ H => ∃ M : St → Hp → Prop, t { D with nx := M } σ H ∧ ∀ σ' H', M σ' H' → u D σ' H'
theorem tMid_of {t u : TS} {D : Ends} {σ : St} {H : Hp} (M : St → Hp → Prop) (h1 : t { D with nx := M } σ H) (h2 : ∀ σ' H', M σ' H' → u D σ' H') : tMid t u D σ H := ⟨M, h1, h2⟩
section
variable {X : Cx} {st : Stmt} {rest : List Stmt} {t u : TS}
theorem pss_mid (h1 : PS X st t) (h2 : PSs X rest u) : PSs X (st :: rest) (tMid t u) := by
  intro pins s σ H D I h
  obtain ⟨M, h, hM⟩ := h
  refine wpAny_execs_cons (thn (h1 pins s σ H { D with nx := M } I h) fun f s1 q => ?_)
  cases f with
  | next =>
    obtain ⟨σ', H', I', q⟩ := q
    exact h2 pins s1 σ' H' D I' (hM σ' H' q)
  | ret v => exact q
  | brk => exact q
  | cont => exact q
end
theorem tyV_str {K : PySem.W.Frag} {z : Str} {H : Hp} : tyV K "str" (.str z) H = True := eq_true rfl
theorem tyV_list {K : PySem.W.Frag} {a : Addr} {xs : List V} {H : Hp} (h : H a = some (.lst xs)) : tyV K "list" (.ref a) H := .inl ⟨rfl, xs, SqL.of h⟩
theorem rIxT_ok {K : PySem.W.Frag} {H : Hp} {t : Addr} {xs : List V} {i : Int} {v : V} {Q : VK} (h : H t = some (.tup xs)) (hv : atI xs i = some v) (q : Q v H) : rIxT K (.ref t) (.int i) H Q := ⟨t, xs, i, v, rfl, rfl, SqT.of h, hv, q⟩
theorem rIxL_ok {K : PySem.W.Frag} {H : Hp} {t : Addr} {xs : List V} {i : Int} {v : V} {Q : VK} (h : H t = some (.lst xs)) (hv : atI xs i = some v) (q : Q v H) : rIxL K (.ref t) (.int i) H Q := ⟨t, xs, i, v, rfl, rfl, SqL.of h, hv, q⟩
theorem rCat_ok {H : Hp} {a b : Addr} {xs ys : List V} {Q : VK} (h1 : H a = some (.lst xs)) (h2 : H b = some (.lst ys)) (hz : xs.length + ys.length ≤ sizeLine) (q : ∀ p, H p = none → Q (.ref p) (upd H p (.lst (xs ++ ys)))) : rCat (.ref a) (.ref b) H Q := ⟨a, b, xs, ys, rfl, rfl, h1, h2, hz, q⟩
theorem rRep_ok {H : Hp} {a : Addr} {x : V} {k : Int} {Q : VK} (h1 : H a = some (.lst [x])) (h0 : 0 ≤ k) (hk : k ≤ 1000000) (q : ∀ p, H p = none → Q (.ref p) (upd H p (.lst (List.replicate k.toNat x)))) : rRep (.ref a) (.int k) H Q := by
  have sz := sizeLine_eq
  refine ⟨a, k, [x], rfl, rfl, h1, by omega, by omega, by show 1 * k.toNat ≤ sizeLine; omega, fun p hp => ?_⟩
  have e : (List.replicate k.toNat [x]).flatten = List.replicate k.toNat x := by
    induction k.toNat with
    | zero => rfl
    | succ n ih => rw [List.replicate_succ, List.flatten_cons, ih]; rfl
  rw [e]
  exact q p hp
theorem append_ok {K : PySem.W.Frag} {H : Hp} {l : Addr} {xs : List V} {y : V} {Q : VK} (h : H l = some (.lst xs)) (hz : xs.length < sizeLine) (q : Q .non (upd H l (.lst (xs ++ [y])))) : tyV K "list" (.ref l) H ∧ rAppend (.ref l) [y] H Q :=
  ⟨tyV_list h, l, xs, y, rfl, rfl, h, hz, q⟩
end L2
namespace HT
open PySem PySem.Spec PyProof.Rows L2
section
variable {prog : Program} {w : World} {A : Around} {E : Value → Shared → Prop} {s : Shared}
theorem cat_tup0 {t b : Addr} {vs ws : List Value} {Q : Value → Shared → Prop} (ht : IsTup s.heap t vs.toArray) (hb : IsTup s.heap b ws.toArray) (hv : vs = []) (h1 : Q (.ref b) s) : wpAny (model prog w) A (binaryOp .Add (.ref t) (.ref b)) Q E s := by
  obtain ⟨⟨cls, dd, data, sl⟩, ho, hc, n, hd⟩ := id ht
  obtain ⟨⟨cls2, dd2, data2, sl2⟩, ho2, hc2, n2, hd2⟩ := id hb
  simp only at hc hd hc2 hd2
  subst hc hd hc2 hd2
  exact concat_meets ⟨_, ho, rfl⟩ ⟨_, ho2, rfl⟩ noFill_tuple_add seq_tuple_add PySem.F.slot_tuple_add PySem.F.entry_tuple_add (PySem.F.args_tuple_add_2 _ _)
    (tuple_addW0 t b vs.toArray ws.toArray n n2 dd dd2 sl sl2 (by simp [hv])) ⟨ho, ho2, h1⟩
theorem getItem_tuple_whole {t sl : Addr} {items : Array Value} {vl vu : Value} {lo hi : Option Int} {Q : Value → Shared → Prop} (ht : IsTup s.heap t items) (hs : s.heap.IsSliceOf sl vl vu .none) (pl : IsPart vl lo) (pu : IsPart vu hi)
    (hw : sIx items.size 0 lo = 0 ∧ sIx items.size items.size hi = items.size) (h : Q (.ref t) s) (hsz : items.size ≤ sizeLine) : wpAny (model prog w) A (getItem (.ref t) (.ref sl)) Q E s := by
  obtain ⟨os, hos, hcs, hds⟩ := id hs
  have hTs : s.TypeIs (.ref sl) "slice" := ⟨os, hos, hcs⟩
  unfold getItem
  try with_reducible refine wpAny_holding ?_
  first | refine wpAny_bind (wpAny_pure ?_) | skip
  refine wpAny_bind (wpAny_sequenceKey ht.typeIs (by decide) ?_)
  refine wpAny_bind (wpAny_callSpecial?_slot (name := Str.ofString "__getitem__") ht.typeIs PyProof.Rows.slot_tuple_getitem
    (wpAny_call_entry PyProof.Rows.slot_tuple_getitem ht.typeIs entry_tuple_getitem ?_ (args_tuple_getitem _ _)))
  show wpAny _ _ (Builtin.Tuple.tupleItemsOf (.ref t) >>= _) _ _ s
  refine wpAny_bind (tupleItemsOf_ ht ?_)
  refine wpAny_bind (wpAny_typeOf hTs ?_)
  rw [if_pos (by decide)]
  refine wpAny_bind (sliceApplied_gen hs pl pu ?_)
  have hyes : ((((sIx items.size 0 lo : Nat) : Int) == 0 && (1 : Int) == 1 && (sIx items.size items.size hi - sIx items.size 0 lo) == items.size) = true) := by
    rw [hw.1, hw.2]
    simp
  show wpAny _ _ (if (((sIx items.size 0 lo : Nat) : Int) == 0 && (1 : Int) == 1 && (sIx items.size items.size hi - sIx items.size 0 lo) == items.size) = true then _ else _) _ _ s
  rw [if_pos hyes]
  refine wpAny_bind ?_
  show wpAny _ _ (typeOf (.ref t) >>= fun v => pure (v == .type "tuple")) _ _ s
  refine wpAny_bind (wpAny_typeOf ht.typeIs (wpAny_pure ?_))
  rw [if_pos (by decide)]
  refine wpAny_bind (wpAny_rule ?_)
  first
    | exact wpAny_bind (wpAny_pure (wpAny_pure ⟨_, rfl, wpAny_pure h⟩))
    | exact wpAny_pure ⟨_, rfl, wpAny_pure h⟩
    | exact wpAny_bind (wpAny_pure ⟨_, rfl, wpAny_pure h⟩)
end
end HT
namespace L2
open PySem PySem.Spec PyProof.Rows
section
variable {X : Cx}
def rCatU : R2 := fun x y H Q => ∃ a b xs ys, x = .ref a ∧ y = .ref b ∧ H a = some (.tup xs) ∧ H b = some (.tup ys) ∧ xs.length + ys.length ≤ sizeLine ∧ ∀ p H', Same H H' → H' p = some (.tup (xs ++ ys)) → Q (.ref p) H'
theorem op_catU : OpR X (binaryOp .Add) rCatU := by
  intro pins s σ H x y v u Q I rx ry h
  obtain ⟨a, b, xs, ys, rfl, rfl, ha, hb, hz, q⟩ := h
  by_cases hx : xs = []
  · subst hx
    cases rx
    cases ry
    obtain ⟨its, r1, p1, _⟩ := I.tuple (SqT.of ha)
    obtain ⟨its2, r2, p2, _⟩ := I.tuple (SqT.of hb)
    exact HT.cat_tup0 p1 p2 (r1.nil_iff.mpr rfl) ⟨.ref b, H, I, rfl, q b H (Same.refl H) hb⟩
  · refine op_catT pins s σ H _ _ v u Q I rx ry ⟨a, b, xs, ys, rfl, rfl, SqT.of ha, SqT.of hb, hx, hz, fun e => ?_, fun _ p hp => q p _ (fun c o h => by rw [upd_ne (ne_of_none h hp)]; exact h) upd_same⟩
    subst e
    exact q a H (Same.refl H) (by rw [List.append_nil]; exact ha)
theorem rCatU_ok {H : Hp} {a b : Addr} {xs ys : List V} {Q : VK} (ha : H a = some (.tup xs)) (hb : H b = some (.tup ys)) (hz : xs.length + ys.length ≤ sizeLine) (q : ∀ p H', Same H H' → H' p = some (.tup (xs ++ ys)) → Q (.ref p) H') : rCatU (.ref a) (.ref b) H Q := ⟨a, b, xs, ys, rfl, rfl, ha, hb, hz, q⟩
def rSlU : V → Option Int → Option Int → Hp → VK → Prop := fun x lo hi H Q => ∃ a xs, x = .ref a ∧ H a = some (.tup xs) ∧ ∀ p H', Same H H' → H' p = some (.tup (cutV xs lo hi)) → Q (.ref p) H'
theorem cutV_all {xs : List V} {lo hi : Option Int} (h : HT.sIx xs.length 0 lo = 0 ∧ HT.sIx xs.length xs.length hi = xs.length) : cutV xs lo hi = xs := by
  unfold cutV
  rw [h.1, h.2, List.drop_zero, Nat.sub_zero, List.take_length]
theorem sl_tupU : SlR X rSlU := by
  intro pins s σ H x v vl vu lo hi sl Q I rx hs pl pu h
  obtain ⟨a, xs, rfl, ha, q⟩ := h
  by_cases hw : HT.sIx xs.length 0 lo = 0 ∧ HT.sIx xs.length xs.length hi = xs.length
  · cases rx
    obtain ⟨its, r, ht, hz⟩ := I.tuple (SqT.of ha)
    have hlen : its.toArray.size = xs.length := by rw [List.size_toArray]; exact r.length.symm
    exact ⟨"tuple", _, PyProof.Rows.slot_tuple_getitem.lookup, ht.typeIs, HT.getItem_tuple_whole ht hs pl pu (by rw [hlen]; exact hw) ⟨.ref a, H, I, rfl, q a H (Same.refl H) (by rw [cutV_all hw]; exact ha)⟩ (by rw [hlen]; exact hz)⟩
  · exact sl_tup pins s σ H _ v vl vu lo hi sl Q I rx hs pl pu ⟨a, xs, rfl, SqT.of ha, hw, fun p hp => q p _ (fun c o h => by rw [upd_ne (ne_of_none h hp)]; exact h) upd_same⟩
theorem rSlU_ok {H : Hp} {a : Addr} {xs : List V} {lo hi : Option Int} {Q : VK} (ha : H a = some (.tup xs)) (q : ∀ p H', Same H H' → H' p = some (.tup (cutV xs lo hi)) → Q (.ref p) H') : rSlU (.ref a) lo hi H Q := ⟨a, xs, rfl, ha, q⟩
theorem kV_flat (k : Key) : flatV (kV k) = true := by cases k <;> rfl
end
section
variable {X : Cx} {k : Nat} {ps : List Str} {sp : Sp} {x : Str} {p pos : Pos} {e : Expr} {es : List Expr} {t : TA}
def FnV (P : Program) (w : World) (K : PySem.W.Frag) (mg : Str → Option Value) (base : Heap) (k : Nat) (ps : List Str) (sp : Sp) (v : V) : Prop :=
  ∃ (f : Addr) (fd : FuncData), v = .ref f ∧ FnOk P w K mg base CX0 k f fd ps sp ∧ Binds K fd ps [] ∧ PySem.W.keepIn K (.ref f) = true
theorem Has.val {P : Program} {w : World} {K : PySem.W.Frag} {mg : Str → Option Value} {base : Heap} (h : Has P w K mg base k x ps sp) : ∃ a, mg x = some (.ref a) ∧ FnV P w K mg base k ps sp (.ref a) := by
  obtain ⟨f, fd, F, b, kp, m⟩ := h
  exact ⟨f, m, f, fd, rfl, F, b, kp⟩
def tCallV (P : Program) (w : World) (K : PySem.W.Frag) (mg : Str → Option Value) (base : Heap) (k : Nat) (ps : List Str) (i : Nat) (t : TA) : TE := fun σ H Q => ∃ v sp, σ[i]? = some (some v) ∧ FnV P w K mg base k ps sp v ∧ t σ H fun vs H1 => sp vs H1 Q E0
end
end L2
namespace L2
open PySem PySem.Spec PyProof.Rows
def Itv (K : PySem.W.Frag) (a : Addr) (n : Nat) : It :=
  ⟨fun i H => i < n ∧ ∃ xs, SqL K H a xs ∧ xs.length = n, fun i H x H' => H' = H ∧ ∀ xs, SqL K H a xs → xs[n - 1 - i]? = some x, fun i H => i = n⟩
def iRev (K : PySem.W.Frag) (ta : TA) : TI := fun σ H R => ta σ H fun vs H1 => ∃ a xs, vs = [.ref a] ∧ SqL K H1 a xs ∧ R (Itv K a xs.length) H1
section
variable {X : Cx} {tg : Expr}
end
end L2
namespace L2
open PySem PySem.Spec PyProof.Rows
section
variable {CX : CXT} {P : Program} {w : World} {K : PySem.W.Frag} {mg : Str → Option Value} {base : Heap} {N : List Str} {qual : Str} {scope : Scope} {f : Addr} {cd : Value} {A : Around} {outer : List Env} {s : Shared} {H : Hp} {E : XK}
theorem cxOf_P : (cxOf CX P w K mg base N qual scope f cd A outer s H E).prog = P := rfl
theorem cxOf_w : (cxOf CX P w K mg base N qual scope f cd A outer s H E).w = w := rfl
theorem cxOf_mg : (cxOf CX P w K mg base N qual scope f cd A outer s H E).mg = mg := rfl
theorem cxOf_b : (cxOf CX P w K mg base N qual scope f cd A outer s H E).base = base := rfl
end
theorem pop_ok {K : PySem.W.Frag} {H : Hp} {l : Addr} {xs : List V} {y : V} {Q : VK} (h : H l = some (.lst (xs ++ [y]))) (q : Q y (upd H l (.lst xs))) : tyV K "list" (.ref l) H ∧ rPop (.ref l) [] H Q :=
  ⟨tyV_list h, l, xs ++ [y], y, rfl, rfl, h, by rw [List.length_append, List.length_singleton, Nat.add_sub_cancel, List.getElem?_append_right (Nat.le_refl _), Nat.sub_self]; rfl, by rw [List.dropLast_concat]; exact q⟩
end L2
namespace Pc
def eat : Nat → List Nat → Option Nat
  | 0, _ => some 0
  | _ + 1, [] => none
  | l + 1, a :: r => (eat (l + a) r).map (· + 1)
def pend : Nat → List Nat → Option Nat
  | l, [] => some l
  | 0, _ :: _ => none
  | l + 1, a :: r => pend (l + a) r
def starts : Nat → List Nat → List Nat
  | _, [] => []
  | p, a :: r => p :: (starts (p + 1) r).drop a
theorem eat_zero (r : List Nat) : eat 0 r = some 0 := by cases r <;> rfl
theorem eat_cons (l a : Nat) (r : List Nat) : eat (l + 1) (a :: r) = (eat (l + a) r).map (· + 1) := rfl
theorem pend_app : ∀ (xs ys : List Nat) (l : Nat), pend l (xs ++ ys) = (pend l xs).bind fun m => pend m ys
  | [], ys, l => by cases l <;> rfl
  | a :: r, ys, 0 => rfl
  | a :: r, ys, l + 1 => by
    show pend (l + a) (r ++ ys) = (pend (l + a) r).bind _
    exact pend_app r ys (l + a)
theorem pend_one (l a : Nat) (h : 0 < l) : pend l [a] = some (l - 1 + a) := by
  cases l with
  | zero => omega
  | succ l => show some (l + a) = some (l + 1 - 1 + a); rw [Nat.add_sub_cancel]
theorem pend_snoc (xs : List Nat) (a l d : Nat) (h : pend l xs = some d) (hd : 0 < d) : pend l (xs ++ [a]) = some (d - 1 + a) := by
  rw [pend_app, h]
  exact pend_one d a hd
theorem eat_le : ∀ (r : List Nat) (l n : Nat), eat l r = some n → n ≤ r.length
  | r, 0, n, h => by rw [eat_zero] at h; cases h; exact Nat.zero_le _
  | [], l + 1, n, h => by cases h
  | a :: r, l + 1, n, h => by
    rw [eat_cons] at h
    obtain ⟨m, hm, rfl⟩ := Option.map_eq_some_iff.mp h
    have := eat_le r (l + a) m hm
    rw [List.length_cons]
    omega
theorem eat_of_pend : ∀ (r : List Nat) (l : Nat), pend l r = some 0 → eat l r = some r.length
  | [], l, h => by
    cases h
    rfl
  | a :: r, 0, h => by cases h
  | a :: r, l + 1, h => by
    rw [eat_cons, eat_of_pend r (l + a) h]
    rfl
theorem pend_drop (r : List Nat) (l : Nat) (h : pend l r = some 0) (p : Nat) : ∃ m, pend m (r.drop p) = some 0 := by
  have e : r = r.take p ++ r.drop p := (List.take_append_drop p r).symm
  rw [e, pend_app] at h
  cases q : pend l (r.take p) with
  | none => rw [q] at h; cases h
  | some m => rw [q] at h; exact ⟨m, h⟩
theorem pend_pos {m : Nat} {r : List Nat} (h : pend m r = some 0) (hr : r ≠ []) : 0 < m := by
  cases r with
  | nil => exact absurd rfl hr
  | cons a r =>
    cases m with
    | zero => cases h
    | succ m => omega
theorem pend_split : ∀ (r : List Nat) (l m : Nat), pend (l + m) r = some 0 → ∃ n, eat l r = some n ∧ pend m (r.drop n) = some 0
  | r, 0, m, h => ⟨0, eat_zero r, by rw [Nat.zero_add] at h; exact h⟩
  | [], l + 1, m, h => by
    have : l + 1 + m = 0 := Option.some.inj h
    omega
  | a :: r, l + 1, m, h => by
    have e : l + 1 + m = (l + m) + 1 := by omega
    rw [e] at h
    have h' : pend (l + a + m) r = some 0 := by
      have e2 : l + a + m = l + m + a := by omega
      rw [e2]
      exact h
    obtain ⟨n, h1, h2⟩ := pend_split r (l + a) m h'
    exact ⟨n + 1, by rw [eat_cons, h1]; rfl, h2⟩
theorem starts_drop : ∀ (r : List Nat) (l n p : Nat), eat l r = some n → (starts p r).drop l = starts (p + n) (r.drop n)
  | r, 0, n, p, h => by rw [eat_zero] at h; cases h; rfl
  | [], l + 1, n, p, h => by cases h
  | a :: r, l + 1, n, p, h => by
    rw [eat_cons] at h
    obtain ⟨m, hm, rfl⟩ := Option.map_eq_some_iff.mp h
    show ((starts (p + 1) r).drop a).drop l = starts (p + (m + 1)) (r.drop m)
    rw [List.drop_drop, Nat.add_comm a l, starts_drop r (l + a) m (p + 1) hm]
    congr 1
    omega
theorem starts_len : ∀ (r : List Nat) (l p : Nat), pend l r = some 0 → (starts p r).length = l
  | [], l, p, h => by
    have : l = 0 := Option.some.inj h
    rw [this]
    rfl
  | a :: r, 0, p, h => by cases h
  | a :: r, l + 1, p, h => by
    have ih := starts_len r (l + a) (p + 1) h
    show ((starts (p + 1) r).drop a).length + 1 = l + 1
    rw [List.length_drop, ih]
    omega
theorem starts_head (r : List Nat) (p : Nat) (h : r ≠ []) : ∃ t, starts p r = p :: t := by
  cases r with
  | nil => exact absurd rfl h
  | cons a r => exact ⟨_, rfl⟩
theorem starts_at (ar : List Nat) (p : Nat) (h : p < ar.length) : starts p (ar.drop p) = p :: (starts (p + 1) (ar.drop (p + 1))).drop (ar.getD p 0) := by
  rw [List.drop_eq_getElem_cons h]
  have e : ar.getD p 0 = ar[p] := by rw [List.getD_eq_getElem?_getD, List.getElem?_eq_getElem h]; rfl
  rw [e]
  rfl
end Pc
namespace Pc
end Pc
namespace Pc
open PySem PySem.Spec L2 PyProof.Rows
abbrev letS : Str := "abcdefghijklmnopqrstuvwxyz"
abbrev figS : Str := "0123456789"
def keptV : List V := [.str "add", .str "sub", .str "mul", .str "neg", .str "any", .str "var", .str "put", .str "load", .str "out"]
def madeB (z y : Str) : Bool := z.cps.toList.all fun c => decide (c ∈ y.cps.toList)
def nameB (z : Str) : Bool := decide (1 ≤ z.length) && (decide (z.length ≤ 8) && (madeB z letS && !inV (.str z) keptV))
def figL (l : List Nat) : List Nat := if l.head? = some 45 then l.tail else l
def numB (z : Str) : Bool := decide (1 ≤ (figL z.cps.toList).length) && (decide ((figL z.cps.toList).length ≤ 60) && (((figL z.cps.toList).all fun c => decide (c ∈ figS.cps.toList)) && (decide (z.cps.toList = [48]) || decide ((figL z.cps.toList).head? ≠ some 48))))
theorem big {n : Nat} (h : n ≤ 1000) : n ≤ sizeLine := Nat.le_trans h (by decide)
theorem atI_in {α : Type} (l : List α) (k : Int) (h0 : 0 ≤ k) (h1 : k < (l.length : Int)) : ∃ c, atI l k = some c ∧ c ∈ l := by
  have hk : k.toNat < l.length := by omega
  have e : k = ((k.toNat : Nat) : Int) := by omega
  have q : atI l ((k.toNat : Nat) : Int) = some l[k.toNat] := atI_nat (List.getElem?_eq_getElem hk)
  rw [← e] at q
  exact ⟨_, q, List.getElem_mem hk⟩
def Ones (i : Nat) (ys : List V) : Prop := ∃ zs : List Str, ys = zs.map V.str ∧ zs.length = i ∧ ∀ z ∈ zs, z.length = 1
theorem Ones.zero : Ones 0 [] := ⟨[], rfl, rfl, fun _ h => nomatch h⟩
theorem Ones.more {i : Nat} {ys : List V} (h : Ones i ys) (c : Nat) : Ones (i + 1) (ys ++ [.str ⟨#[c]⟩]) := by
  obtain ⟨zs, rfl, rfl, h1⟩ := h
  refine ⟨zs ++ [⟨#[c]⟩], by rw [List.map_append]; rfl, by rw [List.length_append, List.length_singleton], fun z hz => ?_⟩
  rcases List.mem_append.mp hz with h | h
  · exact h1 z h
  · rw [List.mem_singleton.mp h]; rfl
def Txts (xs : List V) : Prop := ∀ v ∈ xs, ∃ z : Str, v = .str z ∧ z.length ≤ 1000
theorem Txts.app {xs ys : List V} (h : Txts xs) (g : Txts ys) : Txts (xs ++ ys) := fun v hv => (List.mem_append.mp hv).elim (h v) (g v)
theorem Txts.snoc {xs : List V} {z : Str} (h : Txts xs) (g : z.length ≤ 1000) : Txts (xs ++ [.str z]) := h.app fun v hv => ⟨z, List.mem_singleton.mp hv, g⟩
end Pc
namespace Pc
open PySem PySem.Spec L2 PyProof.Rows
abbrev parts : List (Key × V) := [(Sum.inr "add", .int 2), (Sum.inr "sub", .int 2), (Sum.inr "mul", .int 2), (Sum.inr "neg", .int 1)]
def arS (z : Str) : Nat := if z = "add" then 2 else if z = "sub" then 2 else if z = "mul" then 2 else if z = "neg" then 1 else 0
def arV : V → Nat
  | .str z => arS z
  | _ => 0
def isW (v : V) : Prop := ∃ k : Key, v = kV k
theorem isW.str (z : Str) : isW (.str z) := ⟨Sum.inr z, rfl⟩
theorem isW.int (i : Int) : isW (.int i) := ⟨Sum.inl i, rfl⟩
theorem val_parts (k : Key) : (valV parts k).getD (.int 0) = .int (arV (kV k)) := by
  cases k with
  | inl i => rfl
  | inr z =>
    show (valV parts (Sum.inr z)).getD (.int 0) = .int (arS z)
    unfold arS
    by_cases h1 : z = "add"
    · subst h1; rw [valV_pos rfl, if_pos rfl]; rfl
    rw [valV_neg (fun e => h1 (Sum.inr.inj e).symm), if_neg h1]
    by_cases h2 : z = "sub"
    · subst h2; rw [valV_pos rfl, if_pos rfl]; rfl
    rw [valV_neg (fun e => h2 (Sum.inr.inj e).symm), if_neg h2]
    by_cases h3 : z = "mul"
    · subst h3; rw [valV_pos rfl, if_pos rfl]; rfl
    rw [valV_neg (fun e => h3 (Sum.inr.inj e).symm), if_neg h3]
    by_cases h4 : z = "neg"
    · subst h4; rw [valV_pos rfl, if_pos rfl]; rfl
    rw [valV_neg (fun e => h4 (Sum.inr.inj e).symm), if_neg h4]
    rfl
theorem arS_le (z : Str) : arS z ≤ 2 := by
  unfold arS
  repeat' split
  all_goals decide
theorem arV_le (v : V) : arV v ≤ 2 := by cases v <;> first | exact arS_le _ | exact Nat.zero_le _
theorem arS_cases {z : Str} (h : 0 < arS z) : z = "add" ∨ z = "sub" ∨ z = "mul" ∨ z = "neg" := by
  unfold arS at h
  by_cases h1 : z = "add"
  · exact .inl h1
  by_cases h2 : z = "sub"
  · exact .inr (.inl h2)
  by_cases h3 : z = "mul"
  · exact .inr (.inr (.inl h3))
  by_cases h4 : z = "neg"
  · exact .inr (.inr (.inr h4))
  rw [if_neg h1, if_neg h2, if_neg h3, if_neg h4] at h
  exact absurd h (by decide)
theorem toDigits_len : ∀ (n m : Nat), m < 10 ^ (n + 1) → (Nat.toDigits 10 m).length ≤ n + 1
  | 0, m, h => by rw [Nat.toDigits_of_lt_base (by simpa using h)]; exact Nat.le_refl _
  | n + 1, m, h => by
    by_cases hm : m < 10
    · rw [Nat.toDigits_of_lt_base hm]
      show 1 ≤ _
      omega
    have hr : m % 10 < 10 := Nat.mod_lt m (by decide)
    have t : Nat.toDigits 10 (m / 10) ++ Nat.toDigits 10 (m % 10) = Nat.toDigits 10 (10 * (m / 10) + m % 10) := Nat.toDigits_append_toDigits (by decide) (by omega) hr
    rw [Nat.div_add_mod] at t
    have ih := toDigits_len n (m / 10) (by rw [Nat.pow_succ] at h; omega)
    rw [← t, List.length_append, Nat.toDigits_of_lt_base hr]
    show _ + 1 ≤ _
    omega
theorem digitChar_ne : ∀ d : Nat, 0 < d → d < 10 → (Nat.digitChar d).toNat ≠ 48 := by
  intro d h1 h2
  have : d = 1 ∨ d = 2 ∨ d = 3 ∨ d = 4 ∨ d = 5 ∨ d = 6 ∨ d = 7 ∨ d = 8 ∨ d = 9 := by omega
  rcases this with rfl | rfl | rfl | rfl | rfl | rfl | rfl | rfl | rfl <;> decide
theorem toDigits_head (m : Nat) : 0 < m → ∃ c r, (Nat.toDigits 10 m).map Char.toNat = c :: r ∧ c ≠ 48 := by
  induction m using Nat.strongRecOn with
  | _ m ih =>
    intro h0
    by_cases h : m < 10
    · rw [Nat.toDigits_of_lt_base h]
      exact ⟨_, _, rfl, digitChar_ne m h0 h⟩
    · have hm : m % 10 < 10 := Nat.mod_lt m (by decide)
      have t : Nat.toDigits 10 (m / 10) ++ Nat.toDigits 10 (m % 10) = Nat.toDigits 10 (10 * (m / 10) + m % 10) := Nat.toDigits_append_toDigits (by decide) (by omega) hm
      rw [Nat.div_add_mod] at t
      obtain ⟨c, r, e, hc⟩ := ih (m / 10) (by omega) (by omega)
      rw [← t, List.map_append, e]
      exact ⟨c, _, rfl, hc⟩
def digs (m : Nat) : List Nat := (Nat.toDigits 10 m).map Char.toNat
theorem digs_digit (m : Nat) : NumText.AllDigits (digs m) := by
  intro c hc
  obtain ⟨ch, hch, e⟩ := List.mem_map.mp hc
  have r := PyProof.Rows.digit_range (Nat.isDigit_of_mem_toDigits (by decide) (by decide) hch)
  rw [← e]
  exact r
theorem digs_ne (m : Nat) : digs m ≠ [] := by
  unfold digs
  intro e
  have h := PySem.toDigits_len_ge 10 m
  rw [List.map_eq_nil_iff.mp e] at h
  exact absurd h (by decide)
theorem digs_len {m : Nat} (h : m < 10 ^ 60) : (digs m).length ≤ 60 := by
  unfold digs
  rw [List.length_map]
  exact toDigits_len 59 m h
theorem digs_head (m : Nat) : digs m = [48] ∨ ∃ c r, digs m = c :: r ∧ c ≠ 48 := by
  cases m with
  | zero => exact .inl rfl
  | succ m => exact .inr (toDigits_head (m + 1) (Nat.succ_pos m))
theorem text_nat (m : Nat) : (textV (.int (m : Int))).cps.toList = digs m := PySem.W.KIN.signs_num m
theorem text_neg (m : Nat) : (textV (.int (Int.negSucc m))).cps.toList = 45 :: digs (m + 1) := by
  show (Str.ofString (toString (Int.negSucc m))).cps.toList = _
  rw [PyProof.Rows.signs_ofString]
  show ("-" ++ Nat.repr (m + 1)).toList.map Char.toNat = _
  rw [String.toList_append, List.map_append, Nat.toList_repr]
  rfl
theorem mem_fig (c : Nat) : c ∈ figS.cps.toList ↔ (48 ≤ c ∧ c ≤ 57) := by
  have e : figS.cps.toList = [48, 49, 50, 51, 52, 53, 54, 55, 56, 57] := by decide +kernel
  rw [e]
  simp only [List.mem_cons, List.not_mem_nil, or_false]
  omega
theorem mem_let (c : Nat) : c ∈ letS.cps.toList ↔ (97 ≤ c ∧ c ≤ 122) := by
  have e : letS.cps.toList = List.range' 97 26 := by decide +kernel
  rw [e, List.mem_range']
  constructor
  · rintro ⟨i, h1, h2⟩; omega
  · intro h; exact ⟨c - 97, by omega, by omega⟩
theorem digs_all (m : Nat) : ((digs m).all fun c => decide (c ∈ figS.cps.toList)) = true := by
  rw [List.all_eq_true]
  intro c hc
  exact decide_eq_true ((mem_fig c).mpr (digs_digit m c hc))
theorem digs_no45 (m : Nat) : (digs m).head? ≠ some 45 := by
  rcases digs_head m with h | ⟨c, r, h, _⟩
  · rw [h]; decide
  · rw [h]
    intro e
    have := digs_digit m c (by rw [h]; exact List.mem_cons_self)
    have e' : c = 45 := by simpa using e
    omega
theorem read_nat {m : Nat} (h : m < 10 ^ 60) : numB (textV (.int (m : Int))) = true ∧ PySem.intText? (textV (.int (m : Int))) = some (m : Int) ∧ (textV (.int (m : Int))).length ≤ 61 := by
  have e := text_nat m
  have hl := digs_len h
  have hn := digs_ne m
  refine ⟨?_, ?_, by rw [slen, e]; omega⟩
  · unfold numB
    rw [e]
    have f : figL (digs m) = digs m := by unfold figL; rw [if_neg (digs_no45 m)]
    rw [f, digs_all, decide_eq_true (show 1 ≤ (digs m).length from List.length_pos_iff.mpr hn), decide_eq_true hl]
    rcases digs_head m with h | ⟨c, r, h, hc⟩
    · rw [h]; rfl
    · have : (digs m).head? ≠ some 48 := by rw [h]; intro q; exact hc (by simpa using q)
      rw [decide_eq_true this]
      simp
  · have q := PySem.intText_digits (x := textV (.int (m : Int))) (by rw [e]; exact digs_digit m) (by rw [e]; exact hn) (by rw [slen, e]; omega)
    rw [e] at q
    rw [q]
    unfold digs
    rw [PySem.W.KIN.val_back]
theorem read_negS {m : Nat} (h : m + 1 < 10 ^ 60) : numB (textV (.int (Int.negSucc m))) = true ∧ PySem.intText? (textV (.int (Int.negSucc m))) = some (Int.negSucc m) ∧ (textV (.int (Int.negSucc m))).length ≤ 61 := by
  have e := text_neg m
  have hl := digs_len h
  have hn := digs_ne (m + 1)
  refine ⟨?_, ?_, by rw [slen, e, List.length_cons]; omega⟩
  · unfold numB
    rw [e]
    have f : figL (45 :: digs (m + 1)) = digs (m + 1) := by unfold figL; simp
    rw [f, digs_all, decide_eq_true (show 1 ≤ (digs (m + 1)).length from List.length_pos_iff.mpr hn), decide_eq_true hl]
    rcases toDigits_head (m + 1) (Nat.succ_pos m) with ⟨c, r, h, hc⟩
    have : (digs (m + 1)).head? ≠ some 48 := by
      show ((Nat.toDigits 10 (m + 1)).map Char.toNat).head? ≠ some 48
      rw [h]; intro q; exact hc (by simpa using q)
    rw [decide_eq_true this]
    simp
  · have q := PySem.intText_neg (x := textV (.int (Int.negSucc m))) e (digs_digit _) hn (by rw [slen, e, List.length_cons]; omega)
    rw [q]
    unfold digs
    rw [PySem.W.KIN.val_back]
    rfl
def okW : V → Prop
  | .int i => i.natAbs < 10 ^ 60
  | .str z => nameB z = true ∨ 0 < arS z
  | _ => False
theorem read_int {i : Int} (h : i.natAbs < 10 ^ 60) : numB (textV (.int i)) = true ∧ PySem.intText? (textV (.int i)) = some i ∧ (textV (.int i)).length ≤ 61 := by
  cases i with
  | ofNat m => exact read_nat h
  | negSucc m => exact read_negS h
theorem okW.isW {v : V} (h : okW v) : isW v := by
  cases v with
  | int i => exact isW.int i
  | str z => exact isW.str z
  | _ => exact h.elim
theorem log_small {m : Nat} (h : m < 10 ^ 60) : m.log2 < 1920 := by
  by_cases h0 : m = 0
  · subst h0; decide
  · exact (Nat.log2_lt h0).mpr (Nat.lt_of_lt_of_le h (by decide))
theorem okW.word {v : V} (h : okW v) : wordV v := by
  cases v with
  | int i => exact log_small h
  | str z => exact True.intro
  | _ => exact h.elim
theorem name_codes {z : Str} (h : nameB z = true) : z.cps.toList ≠ [] ∧ z.length ≤ 8 ∧ ∀ c ∈ z.cps.toList, 97 ≤ c ∧ c ≤ 122 := by
  unfold nameB madeB at h
  simp only [Bool.and_eq_true, decide_eq_true_eq, List.all_eq_true] at h
  obtain ⟨h1, h2, h3, _⟩ := h
  exact ⟨fun e => by rw [slen, e] at h1; exact absurd h1 (by decide), h2, fun c hc => (mem_let c).mp (h3 c hc)⟩
theorem op_codes {z : Str} (h : 0 < arS z) : z.cps.toList ≠ [] ∧ z.length ≤ 8 ∧ ∀ c ∈ z.cps.toList, 97 ≤ c ∧ c ≤ 122 := by
  rcases arS_cases h with rfl | rfl | rfl | rfl <;> refine ⟨by decide +kernel, by decide +kernel, ?_⟩ <;> decide +kernel
theorem str_codes {z : Str} (h : okW (.str z)) : z.cps.toList ≠ [] ∧ z.length ≤ 8 ∧ ∀ c ∈ z.cps.toList, 97 ≤ c ∧ c ≤ 122 := h.elim name_codes op_codes
theorem okW.text {v : V} (h : okW v) : (textV v).length ≤ 61 ∧ 32 ∉ (textV v).cps.toList := by
  cases v with
  | int i =>
    refine ⟨(read_int h).2.2, ?_⟩
    cases i with
    | ofNat m =>
      show 32 ∉ (textV (.int (m : Int))).cps.toList
      rw [text_nat]
      intro hc
      have := digs_digit m 32 hc
      omega
    | negSucc m =>
      rw [text_neg]
      intro hc
      rcases List.mem_cons.mp hc with e | hc
      · exact absurd e (by decide)
      · have := digs_digit (m + 1) 32 hc
        omega
  | str z =>
    obtain ⟨h1, h2, h3⟩ := str_codes h
    refine ⟨by show z.length ≤ 61; omega, fun hc => ?_⟩
    have := h3 32 hc
    omega
  | _ => exact h.elim
def isTerm (ws : List V) : Prop := pend 1 (ws.map arV) = some 0
theorem isTerm.ne {ws : List V} (h : isTerm ws) : ws ≠ [] := by
  intro e
  rw [e] at h
  cases h
def spHow : Sp := fun vs H Q _ => ∃ v, vs = [v] ∧ isW v ∧ Q (.int (arV v)) H
end Pc
namespace Pc
open PySem PySem.Spec L2 PyProof.Rows
def Deck (H : Hp) (d b : Addr) (ns : List Int) (n : Nat) : Prop := H d = some (.lst [.ref b, .int (n : Int)]) ∧ H b = some (.lst (List.map V.int ns))
def SameB (d : Addr) (H H' : Hp) : Prop := ∀ b o, b ≠ d → H b = some o → H' b = some o
theorem SameB.refl (d : Addr) (H : Hp) : SameB d H H := fun _ _ _ h => h
theorem SameB.trans {d : Addr} {H H1 H2 : Hp} (a : SameB d H H1) (b : SameB d H1 H2) : SameB d H H2 := fun c o n h => b c o n (a c o n h)
theorem SameB.of {d : Addr} {H H' : Hp} (a : Same H H') : SameB d H H' := fun b o _ h => a b o h
theorem SameB.upd {d p : Addr} {H H' : Hp} (a : SameB d H H') (hp : H p = none) (o : HO) : SameB d H (L2.upd H' p o) := fun b u n h => by rw [upd_ne (ne_of_none h hp)]; exact a b u n h
theorem Deck.ne {H : Hp} {d b : Addr} {ns : List Int} {n : Nat} (h : Deck H d b ns n) : b ≠ d := ne_of h.2 h.1 (by intro e; cases ns <;> simp at e)
theorem Deck.next {H H' : Hp} {d b : Addr} {ns : List Int} {n k : Nat} (h : Deck H d b ns n) (s : SameB d H H') (e : H' d = some (.lst [.ref b, .int (k : Int)])) : Deck H' d b ns k := ⟨e, s b _ h.ne h.2⟩
theorem Deck.same {H H' : Hp} {d b : Addr} {ns : List Int} {n : Nat} (h : Deck H d b ns n) (s : Same H H') : Deck H' d b ns n := ⟨s _ _ h.1, s _ _ h.2⟩
def lenAt (H : Hp) (p : Addr) : Nat := match H p with | some (.lst ws) => ws.length | _ => 0
theorem lenAt_of {H : Hp} {p : Addr} {ws : List V} (h : H p = some (.lst ws)) : lenAt H p = ws.length := by unfold lenAt; rw [h]
def spNext : Sp := fun vs H Q _ => ∃ (d b : Addr) (ns : List Int) (n : Nat), vs = [.ref d] ∧ Deck H d b ns n ∧ n ≤ 100000 ∧ ∀ (c : Int) (H' : Hp), SameB d H H' → H' d = some (.lst [.ref b, .int ((n + 1 : Nat) : Int)]) → Q (.int c) H'
def Names (H : Hp) (l : Addr) (k : Nat) : Prop := ∃ zs : List Str, H l = some (.lst (List.map V.str zs)) ∧ zs.length = k ∧ ∀ z ∈ zs, nameB z = true
def TermAt (H : Hp) (t : Addr) (m : Nat) : Prop := ∃ ws : List V, H t = some (.tup ws) ∧ (∀ v ∈ ws, okW v) ∧ isTerm ws ∧ ws.length ≤ m
theorem inV_str {z : Str} : ∀ {xs : List V}, inV (.str z) xs = true → .str z ∈ xs := by
  intro xs h
  unfold inV at h
  obtain ⟨y, hy, e⟩ := List.any_eq_true.mp h
  cases y with
  | str x =>
    have e' : x = z := by simpa [eqV] using e
    exact e' ▸ hy
  | _ => simp [eqV] at e
theorem mulS_codes (z : Str) (n : Nat) : (mulS z n).cps.toList = (List.replicate n z.cps.toList).flatten := by unfold mulS; simp
theorem name_ar {z : Str} (h : nameB z = true) : arS z = 0 := by
  cases e : arS z with
  | zero => rfl
  | succ n =>
    have hk : inV (.str z) keptV = true := by
      rcases arS_cases (z := z) (by omega) with rfl | rfl | rfl | rfl <;> decide +kernel
    unfold nameB at h
    rw [hk] at h
    simp at h
theorem ar_neg : arS "neg" = 1 := by decide +kernel
theorem SameB.free {d t : Addr} {H H' : Hp} {o : HO} (s : SameB d H H') (hd : H' d = some o) (ht : H' t = none) : H t = none := by
  cases e : H t with
  | none => rfl
  | some u =>
    by_cases h : t = d
    · subst h; rw [hd] at ht; cases ht
    · rw [s t u h e] at ht; cases ht
theorem Names.same {H H' : Hp} {l : Addr} {k : Nat} (h : Names H l k) (s : Same H H') : Names H' l k := by
  obtain ⟨zs, h1, h2⟩ := h
  exact ⟨zs, s _ _ h1, h2⟩
theorem Names.sameB {H H' : Hp} {d l : Addr} {k : Nat} (h : Names H l k) (s : SameB d H H') (hn : l ≠ d) : Names H' l k := by
  obtain ⟨zs, h1, h2⟩ := h
  exact ⟨zs, s _ _ hn h1, h2⟩
theorem Names.ne {H : Hp} {d b l : Addr} {ns : List Int} {n k : Nat} (h : Names H l k) (hD : Deck H d b ns n) : l ≠ d := by
  obtain ⟨zs, h1, h2⟩ := h
  exact ne_of h1 hD.1 (by intro e; cases zs <;> simp at e)
theorem TermAt.same {H H' : Hp} {t : Addr} {m : Nat} (h : TermAt H t m) (s : Same H H') : TermAt H' t m := by
  obtain ⟨ws, h1, h2⟩ := h
  exact ⟨ws, s _ _ h1, h2⟩
theorem TermAt.sameB {H H' : Hp} {d b t : Addr} {ns : List Int} {n m : Nat} (h : TermAt H t m) (hD : Deck H d b ns n) (s : SameB d H H') : TermAt H' t m := by
  obtain ⟨ws, h1, h2⟩ := h
  exact ⟨ws, s _ _ (ne_of h1 hD.1 (by intro e; cases e)) h1, h2⟩
theorem cut_ints (ns : List Int) (lo hi : Option Int) : ∃ ms : List Int, cutV (ns.map V.int) lo hi = ms.map V.int ∧ ms.length ≤ ns.length := by
  refine ⟨_, by unfold cutV; rw [← List.map_drop, ← List.map_take], ?_⟩
  rw [List.length_take, List.length_drop]
  omega
end Pc
namespace Pc
open PySem PySem.Spec L2 PyProof.Rows
def opN (z : Str) (a b : Int) : Int := if z = "add" then a + b else if z = "sub" then a - b else if z = "mul" then a * b else -a
def mag (x : Int) : Nat := max x.natAbs 2
end Pc
namespace L2
open PySem PySem.Spec PyProof.Rows
def bitsOk (i : Int) : Prop := ∃ n, n ≤ 1000000 ∧ i.natAbs < 2 ^ n
theorem bitsOk.le {i : Int} (h : bitsOk i) : Builtin.Int.intBits i ≤ 2 ^ 20 := by
  obtain ⟨n, hn, hi⟩ := h
  unfold Builtin.Int.intBits
  split
  · exact Nat.zero_le _
  · rename_i h0
    have hne : i.natAbs ≠ 0 := by
      intro e
      exact h0 (by rw [Int.natAbs_eq_zero.mp e]; rfl)
    have := (Nat.log2_lt hne).mpr hi
    have e : (2 : Nat) ^ 20 = 1048576 := rfl
    omega
theorem FnV.up {P : Program} {w : World} {K : PySem.W.Frag} {mg : Str → Option Value} {base : Heap} {j k : Nat} {ps : List Str} {sp : Sp} {v : V} (h : FnV P w K mg base j ps sp v) (l : j ≤ k) : FnV P w K mg base k ps sp v := by
  obtain ⟨f, fd, e, F, r⟩ := h
  exact ⟨f, fd, e, F.mono l, r⟩
end L2
namespace Pc
open PySem PySem.Spec L2 PyProof.Rows
def ValsAt (H : Hp) (a : Addr) (ρ : Str → Option Int) : Prop := ∃ kvs : List (Key × V), H a = some (.dK kvs) ∧ ∀ z, valV kvs (Sum.inr z) = (ρ z).map V.int
theorem ValsAt.same {H H' : Hp} {a : Addr} {ρ : Str → Option Int} (h : ValsAt H a ρ) (s : Same H H') : ValsAt H' a ρ := by
  obtain ⟨kvs, h1, h2⟩ := h
  exact ⟨kvs, s _ _ h1, h2⟩
def valW (ρ : Str → Option Int) : V → V
  | .str z => if 0 < arS z then .str z else .int ((ρ z).getD 0)
  | v => v
def hasV (ρ : Str → Option Int) : V → Prop
  | .str z => 0 < arS z ∨ (ρ z).isSome = true
  | _ => True
end Pc
namespace Pc
open PySem PySem.Spec L2 PyProof.Rows
theorem pend_le : ∀ (r : List Nat) (l : Nat), pend l r = some 0 → l ≤ r.length
  | [], l, h => by
    have : l = 0 := Option.some.inj h
    omega
  | a :: r, 0, h => by cases h
  | a :: r, l + 1, h => by
    have := pend_le r (l + a) h
    rw [List.length_cons]
    omega
theorem eat_add : ∀ (r : List Nat) (j k : Nat), eat (j + k) r = (eat j r).bind fun s => (eat k (r.drop s)).map (s + ·)
  | r, 0, k => by
    rw [eat_zero, Nat.zero_add]
    show eat k r = (eat k r).map (0 + ·)
    cases eat k r with
    | none => rfl
    | some n => show some n = some (0 + n); rw [Nat.zero_add]
  | [], j + 1, k => by
    rw [show j + 1 + k = (j + k) + 1 by omega]
    rfl
  | a :: r, j + 1, k => by
    rw [show j + 1 + k = (j + k) + 1 by omega, eat_cons, eat_cons, show j + k + a = j + a + k by omega, eat_add r (j + a) k]
    cases eat (j + a) r with
    | none => rfl
    | some s =>
      show ((eat k (r.drop s)).map (s + ·)).map (· + 1) = (eat k (r.drop s)).map (s + 1 + ·)
      cases eat k (r.drop s) with
      | none => rfl
      | some n => show some (s + n + 1) = some (s + 1 + n); congr 1; omega
theorem pend_eat : ∀ (r : List Nat) (k n l : Nat), eat k r = some n → pend (l + k) r = pend l (r.drop n)
  | r, 0, n, l, h => by rw [eat_zero] at h; cases h; rfl
  | [], k + 1, n, l, h => by cases h
  | a :: r, k + 1, n, l, h => by
    rw [eat_cons] at h
    obtain ⟨m, hm, rfl⟩ := Option.map_eq_some_iff.mp h
    show pend (l + k + a) r = pend l (r.drop m)
    rw [show l + k + a = l + (k + a) by omega]
    exact pend_eat r (k + a) m l hm
theorem eat_app : ∀ (xs ys : List Nat) (k : Nat), pend k xs = some 0 → eat k (xs ++ ys) = some xs.length
  | [], ys, k, h => by
    have : k = 0 := Option.some.inj h
    rw [this, eat_zero]
    rfl
  | a :: r, ys, 0, h => by cases h
  | a :: r, ys, k + 1, h => by
    rw [List.cons_append, eat_cons, eat_app r ys (k + a) h]
    rfl
theorem eat_pos : ∀ (r : List Nat) (k n : Nat), eat (k + 1) r = some n → 0 < n
  | [], k, n, h => by cases h
  | a :: r, k, n, h => by
    rw [eat_cons] at h
    obtain ⟨m, hm, rfl⟩ := Option.map_eq_some_iff.mp h
    omega
theorem cut_head (ws : List V) (p : Nat) (h : p ≤ ws.length) : cutV ws none (some (p : Int)) = ws.take p := by
  unfold cutV
  rw [HT.sIx_nat, HT.sIx_none, Nat.min_eq_left h]
  rfl
theorem cut_tail (ws : List V) (p n : Nat) (h : p + n ≤ ws.length) : cutV ws (some ((p : Int) + (n : Int))) none = ws.drop (p + n) := by
  unfold cutV
  rw [show (p : Int) + (n : Int) = ((p + n : Nat) : Int) by omega, HT.sIx_nat, HT.sIx_none, Nat.min_eq_left h]
  apply List.take_of_length_le
  rw [List.length_drop]
  omega
theorem below_pend {ws : List V} (h : isTerm ws) {p : Nat} {x : V} (hx : ws[p]? = some x) : ∃ m, pend (m + arV x) ((ws.drop (p + 1)).map arV) = some 0 := by
  have hp : p < ws.length := (List.getElem?_eq_some_iff.mp hx).1
  have hd : ws.drop p = x :: ws.drop (p + 1) := by
    rw [List.drop_eq_getElem_cons hp]
    congr 1
    rw [List.getElem?_eq_getElem hp] at hx
    exact Option.some.inj hx
  obtain ⟨m, hm⟩ := pend_drop _ 1 h p
  rw [← List.map_drop, hd] at hm
  cases m with
  | zero => cases hm
  | succ m' => exact ⟨m', hm⟩
def lowW (ρ : Str → Option Int) (v : V) : Prop := isW v ∧ hasV ρ v ∧ ∀ i, valW ρ v = .int i → mag i ≤ 2 ^ 7
theorem three_in {x : V} (hx : isW x) : (inV x [V.str "add", V.str "sub", V.str "mul"] = true) ↔ arV x = 2 := by
  obtain ⟨k, rfl⟩ := hx
  cases k with
  | inl i =>
    constructor
    · intro h
      exact absurd h (by simp [inV, eqV, kV])
    · intro h
      exact absurd h (by show ¬ (0 = 2); decide)
  | inr z =>
    show (inV (.str z) _ = true) ↔ arS z = 2
    constructor
    · intro h
      have := inV_str h
      simp only [List.mem_cons, List.not_mem_nil, or_false, V.str.injEq] at this
      rcases this with rfl | rfl | rfl <;> decide +kernel
    · intro h
      rcases arS_cases (z := z) (by omega) with rfl | rfl | rfl | rfl
      · decide +kernel
      · decide +kernel
      · decide +kernel
      · rw [ar_neg] at h
        exact absurd h (by decide)
def six : List Str := ["a", "b", "ab", "kind", "addd", "neon"]
theorem six_name {z : Str} (h : z ∈ six) : nameB z = true := by
  have all : six.all nameB = true := by decide +kernel
  exact List.all_eq_true.mp all z h
def okL : V → Prop
  | .int i => i.natAbs ≤ 100
  | .str z => z ∈ six ∨ 0 < arS z
  | _ => False
theorem okL.ok {v : V} (h : okL v) : okW v := by
  cases v with
  | int i =>
    have h : i.natAbs ≤ 100 := h
    show i.natAbs < 10 ^ 60
    omega
  | str z => exact h.elim (fun a => .inl (six_name a)) .inr
  | _ => exact h.elim
def LawTerm (H : Hp) (t : Addr) (m : Nat) (ws : List V) : Prop := H t = some (.tup ws) ∧ (∀ v ∈ ws, okL v) ∧ isTerm ws ∧ ws.length ≤ m
def intAt (σ : L2.St) (i : Nat) : Nat := match σ[i]? with | some (some (.int x)) => x.toNat | _ => 0
def spBehind (K : PySem.W.Frag) : Sp := fun vs H Q _ => ∃ (t : Addr) (ws : List V) (p n : Nat), vs = [.ref t, .int (p : Int)] ∧ SqT K H t ws ∧ (∀ v ∈ ws, isW v) ∧ ws.length ≤ 1000 ∧ eat 1 ((ws.drop p).map arV) = some n ∧ ∀ H', Same H H' → Q (.int ((p : Int) + (n : Int))) H'
def lawV (ρ : Str → Option Int) : Prop := ∀ z ∈ six, ∃ i, ρ z = some i ∧ i.natAbs ≤ 100
theorem okL.low {ρ : Str → Option Int} (hρ : lawV ρ) {v : V} (h : okL v) : lowW ρ v := by
  have m7 : ∀ i : Int, i.natAbs ≤ 100 → mag i ≤ 2 ^ 7 := fun i hi => Nat.max_le.mpr ⟨by omega, by decide⟩
  cases v with
  | int n =>
    refine ⟨isW.int n, True.intro, fun i e => ?_⟩
    have e : V.int n = V.int i := e
    cases e
    exact m7 _ h
  | str z =>
    rcases h with h | h
    · obtain ⟨i, hi, hb⟩ := hρ z h
      have a0 : arS z = 0 := name_ar (six_name h)
      refine ⟨isW.str z, .inr (by rw [hi]; rfl), fun x e => ?_⟩
      have e : (if 0 < arS z then V.str z else V.int ((ρ z).getD 0)) = V.int x := e
      rw [if_neg (by omega), hi] at e
      cases e
      exact m7 _ hb
    · refine ⟨isW.str z, .inl h, fun x e => ?_⟩
      have e : (if 0 < arS z then V.str z else V.int ((ρ z).getD 0)) = V.int x := e
      rw [if_pos h] at e
      cases e
  | _ => exact h.elim
def valsOk (i : Nat) (kvs : List (Key × V)) : Prop := (∀ z v, valV kvs (Sum.inr z) = some v → ∃ x : Int, v = .int x) ∧ ∀ z ∈ six.take i, ∃ x : Int, valV kvs (Sum.inr z) = some (.int x) ∧ x.natAbs ≤ 100
theorem valsOk.put {i : Nat} {kvs : List (Key × V)} (h : valsOk i kvs) {z : Str} (hz : six[i]? = some z) {x : Int} (hx : x.natAbs ≤ 100) : valsOk (i + 1) (putK kvs (Sum.inr z) (.int x)) := by
  constructor
  · intro y v e
    rw [valV_put] at e
    by_cases hy : (Sum.inr y : Key) = Sum.inr z
    · rw [if_pos hy] at e
      exact ⟨x, (Option.some.inj e).symm⟩
    · rw [if_neg hy] at e
      exact h.1 y v e
  · intro y hy
    rw [valV_put]
    by_cases e : (Sum.inr y : Key) = Sum.inr z
    · rw [if_pos e]
      exact ⟨x, rfl, hx⟩
    · rw [if_neg e]
      rw [List.take_add_one, hz] at hy
      rcases List.mem_append.mp hy with hy | hy
      · exact h.2 y hy
      · have : y = z := by simpa using hy
        exact absurd (by rw [this]) e
theorem valsOk.vals {kvs : List (Key × V)} (h : valsOk 6 kvs) {H : Hp} {a : Addr} (ha : H a = some (.dK kvs)) : ∃ ρ, ValsAt H a ρ ∧ lawV ρ := by
  refine ⟨fun z => match valV kvs (Sum.inr z) with | some (.int x) => some x | _ => none, ⟨kvs, ha, fun z => ?_⟩, fun z hz => ?_⟩
  · show valV kvs (Sum.inr z) = Option.map V.int (match valV kvs (Sum.inr z) with | some (.int x) => some x | _ => none)
    generalize e : valV kvs (Sum.inr z) = r
    cases r with
    | none => rfl
    | some v =>
      obtain ⟨x, rfl⟩ := h.1 z v e
      rfl
  · obtain ⟨x, hx, hb⟩ := h.2 z (by rw [show six.take 6 = six from rfl]; exact hz)
    refine ⟨x, ?_, hb⟩
    show (match valV kvs (Sum.inr z) with | some (.int x) => some x | _ => none) = some x
    rw [hx]
theorem LawTerm.same {H H' : Hp} {t : Addr} {m : Nat} {ws : List V} (h : LawTerm H t m ws) (s : Same H H') : LawTerm H' t m ws := ⟨s _ _ h.1, h.2⟩
theorem LawTerm.sameB {H H' : Hp} {d b t : Addr} {ns : List Int} {n m : Nat} {ws : List V} (h : LawTerm H t m ws) (hD : Deck H d b ns n) (s : SameB d H H') : LawTerm H' t m ws := ⟨s _ _ (ne_of h.1 hD.1 (by intro e; cases e)) h.1, h.2⟩
theorem LawTerm.le {H : Hp} {t : Addr} {m k : Nat} {ws : List V} (h : LawTerm H t m ws) (l : m ≤ k) : LawTerm H t k ws := ⟨h.1, h.2.1, h.2.2.1, Nat.le_trans h.2.2.2 l⟩
end Pc
namespace L2.Srt
open PySem PySem.W PyProof.Rows
section
variable {cmp : Nat → Nat → (Bool → Shared → Prop) → Shared → Prop} {N : Nat} {r : Nat → Int} {s : Shared}
def PermR (N : Nat) (p : Array Nat) : Prop := p.toList.Perm (List.range N)
theorem PermR.size {p : Array Nat} (h : PermR N p) : p.size = N := by
  have := h.length_eq
  rw [Array.length_toList, List.length_range] at this
  exact this
theorem PermR.lt {p : Array Nat} (h : PermR N p) {k : Nat} (hk : k < N) : p.getD k 0 < N := by
  have hs := h.size
  have e : p.getD k 0 = p[k]'(by omega) := by simp [Array.getD, hs, hk]
  rw [e]
  have : p[k]'(by omega) ∈ p.toList := by simp
  exact List.mem_range.mp (h.mem_iff.mp this)
theorem PermR.of {p q : Array Nat} (h : PermR N p) (e : q.Perm p) : PermR N q := (Array.perm_iff_toList_perm.mp e).trans h
def R (r : Nat → Int) (p : Array Nat) (i : Nat) : Int := r (p.getD i 0)
def Inc (r : Nat → Int) (p : Array Nat) (k : Nat) : Prop := ∀ i j, i ≤ j → j < k → R r p i ≤ R r p j
def Dec (r : Nat → Int) (p : Array Nat) (k : Nat) : Prop := ∀ i j, i ≤ j → j < k → R r p j ≤ R r p i
theorem Inc.more {p : Array Nat} {k : Nat} (h : Inc r p k) (hk : 1 ≤ k) (e : R r p (k - 1) ≤ R r p k) : Inc r p (k + 1) := by
  intro i j hij hj
  by_cases h1 : j < k
  · exact h i j hij h1
  · have : j = k := by omega
    subst this
    by_cases h2 : i = j
    · subst h2; exact Int.le_refl _
    · have := h i (j - 1) (by omega) (by omega)
      omega
theorem Dec.more {p : Array Nat} {k : Nat} (h : Dec r p k) (hk : 1 ≤ k) (e : R r p k ≤ R r p (k - 1)) : Dec r p (k + 1) := by
  intro i j hij hj
  by_cases h1 : j < k
  · exact h i j hij h1
  · have : j = k := by omega
    subst this
    by_cases h2 : i = j
    · subst h2; exact Int.le_refl _
    · have := h i (j - 1) (by omega) (by omega)
      omega
end
end L2.Srt
namespace L2.Srt
open PySem PySem.W PyProof.Rows
section
variable {prog : Program} {w : World} {A : Around} {E : Value → Shared → Prop} {s : Shared} {r : Nat → Int}
end
end L2.Srt
namespace L2
open PySem PySem.Spec PyProof.Rows Srt
section
variable {X : Cx}
end
end L2
namespace PySem.SeqAt
open PySem PySem.Spec PySem.Calls
def LtAt (A : Around) (s : Shared) (x y : Value) (b : Bool) : Prop := ∀ (prog : Program) (w : World) (E : Value → Shared → Prop) (Q : Value → Shared → Prop), Q (.bool b) s → wpAny (model prog w) A (richCompare .Lt x y) Q E s
def lexB (e c : Nat → Bool) (d : Bool) : List Nat → Bool
  | [] => d
  | j :: r => if e j then lexB e c d r else c j
theorem tuple_ltAt (l b : Addr) (items items2 : Array Value) (n n2 : Nat) (dd dd2 : Option Addr) (sl sl2 : Array (Option Value)) (e c : Nat → Bool) :
    Meets (Builtin.«tuple.__lt__» ⟨[.ref l, .ref b], []⟩)
      (fun A R s => s.heap.get? l = some { cls := .type "tuple", dict := dd, data := .seq items n, slots := sl } ∧ s.heap.get? b = some { cls := .type "tuple", dict := dd2, data := .seq items2 n2, slots := sl2 } ∧
        (∀ j (h1 : j < items.size) (h2 : j < items2.size), EqAt A.in1 s items[j] items2[j] (e j)) ∧
        (∀ j (h1 : j < items.size) (h2 : j < items2.size), e j = false → LtAt A.in1 s items[j] items2[j] (c j)) ∧
        R (.ok (.ret (.bool (lexB e c (decide (items.size < items2.size)) (List.range (min items.size items2.size)))))) s) :=
  .of_wp fun prog w A R s h => by
    obtain ⟨hp, g, d, tk, os⟩ := s; obtain ⟨hl, hb, he, hc, h⟩ := h
    have f2 := AutoSeq1.sub_tuple_tuple
    have hZ : (items.toList.zip items2.toList).length = min items.size items2.size := by simp
    wp_walk using wpAny_loadPart' hl, wpAny_loadPart' hb, wpAny_forIn_list _ (fun rest b s' => b.1 = none ∧ s' = ⟨hp, g, d, tk, os⟩ ∧ ∃ i, rest = (items.toList.zip items2.toList).drop i ∧
      R (.ok (.ret (.bool (lexB e c (decide (items.size < items2.size)) ((List.range (min items.size items2.size)).drop i))))) ⟨hp, g, d, tk, os⟩) _
    case turn =>
      rintro ⟨y, x⟩ rest b s' ⟨hb', rfl, i, hz, hR⟩
      have hlt : i < (items.toList.zip items2.toList).length := by
        rcases Nat.lt_or_ge i (items.toList.zip items2.toList).length with h' | h'
        · exact h'
        · rw [List.drop_of_length_le h'] at hz; cases hz
      have hm : i < min items.size items2.size := hZ ▸ hlt
      have h1 : i < items.size := Nat.lt_of_lt_of_le hm (Nat.min_le_left _ _)
      have h2 : i < items2.size := Nat.lt_of_lt_of_le hm (Nat.min_le_right _ _)
      rw [List.drop_eq_getElem_cons hlt] at hz
      injection hz with hyx hrest
      have hy : y = items[i] := by have := congrArg Prod.fst hyx; simpa using this
      have hx : x = items2[i] := by have := congrArg Prod.snd hyx; simpa using this
      subst hy hx
      have hd : (List.range (min items.size items2.size)).drop i = i :: (List.range (min items.size items2.size)).drop (i + 1) := by simp [List.drop_eq_getElem_cons, hm]
      rw [hd] at hR
      unfold lexB at hR
      refine wpAny_bind (he i h1 h2 prog w _ _ ?_)
      cases hy : e i with
      | true =>
        rw [hy] at hR
        wp_walk
        exact ⟨rfl, rfl, i + 1, hrest, by simpa using hR⟩
      | false =>
        rw [hy] at hR
        rw [if_pos (show (!false) = true from rfl)]
        dsimp only
        refine wpAny_bind (wpAny_rule ?_)
        refine wpAny_bind (hc i h1 h2 hy prog w _ _ ?_)
        wp_walk
        exact ⟨_, rfl, by simpa using hR⟩
    case fin =>
      rintro ⟨b1, b2⟩ s' ⟨hb', rfl, i, hz, hR⟩
      simp only at hb'
      subst hb'
      have hge : min items.size items2.size ≤ i := by
        rcases Nat.lt_or_ge i (items.toList.zip items2.toList).length with h' | h'
        · rw [List.drop_eq_getElem_cons h'] at hz; cases hz
        · exact hZ ▸ h'
      rw [List.drop_of_length_le (by simpa using hge)] at hR
      wp_walk
      exact ⟨_, rfl, by simpa [Builtin.Tuple.tupleCompareSizes, lexB] using hR⟩
    case h =>
      exact ⟨rfl, rfl, 0, rfl, by simpa using h⟩
section
variable {A : Around} {s : Shared}
theorem LtAt.tuples {l b : Addr} {items items2 : Array Value} {e c : Nat → Bool} (hl : s.heap.IsTuple l items) (hb : s.heap.IsTuple b items2) (hu : A.units < cLine)
    (he : ∀ j (h1 : j < items.size) (h2 : j < items2.size), EqAt A.in1 s items[j] items2[j] (e j)) (hc : ∀ j (h1 : j < items.size) (h2 : j < items2.size), e j = false → LtAt A.in1 s items[j] items2[j] (c j)) :
    LtAt A s (.ref l) (.ref b) (lexB e c (decide (items.size < items2.size)) (List.range (min items.size items2.size))) := fun prog w E Q h => by
  obtain ⟨⟨cls, dd, data, sl⟩, ho, hc1, n, hd⟩ := id hl
  obtain ⟨⟨cls2, dd2, data2, sl2⟩, ho2, hc2, n2, hd2⟩ := id hb
  simp only at hc1 hd hc2 hd2
  subst hc1 hd hc2 hd2
  exact richCompare_meets_room (op := .Lt) ⟨_, ho, rfl⟩ ⟨_, ho2, rfl⟩ F.slot_tuple_lt F.entry_tuple_lt (F.args_tuple_lt_2 _ _) (tuple_ltAt l b items items2 n n2 dd dd2 sl sl2 e c)
    ⟨ho, ho2, he, hc, show Value.bool _ ≠ Value.notImplemented ∧ Q (.bool _) s from ⟨(fun x => nomatch x), h⟩⟩ hu
theorem LtAt.str {x y : Str} {t u : Tok} : LtAt A s (.str x t) (.str y u) (decide (x.cps.toList < y.cps.toList)) := fun prog w E Q h => by
  refine wpAny_richCompare_same (T := "str") (id := "str.__lt__") (op := .Lt) (typeIs_str s x t) (typeIs_str s y u) PyProof.Rows.slot_str_lt (PyProof.Rows.call_str_lt ?_)
  exact ⟨(fun x => nomatch x), h⟩
end
end PySem.SeqAt
namespace L2
open PySem PySem.Spec PyProof.Rows Srt
theorem countP_lt {α : Type} {p q : α → Bool} : ∀ {l : List α}, (∀ x ∈ l, p x = true → q x = true) → (∃ x ∈ l, q x = true ∧ p x = false) → l.countP p < l.countP q
  | [], _, h => by obtain ⟨x, hx, _⟩ := h; cases hx
  | a :: t, hm, h => by
    rw [List.countP_cons, List.countP_cons]
    have mono := List.countP_mono_left (l := t) (fun x hx => hm x (List.mem_cons_of_mem _ hx))
    have ha := hm a List.mem_cons_self
    by_cases hw : q a = true ∧ p a = false
    · rw [hw.1, hw.2]
      simp
      omega
    · have : ∃ x ∈ t, q x = true ∧ p x = false := by
        obtain ⟨x, hx, hq⟩ := h
        rcases List.mem_cons.mp hx with rfl | hx
        · exact absurd hq hw
        · exact ⟨x, hx, hq⟩
      have ih := countP_lt (fun x hx => hm x (List.mem_cons_of_mem _ hx)) this
      cases hp : p a with
      | true => rw [ha hp]; simp; omega
      | false => cases q a <;> simp <;> omega
def rank (n : Nat) (lt : Nat → Nat → Bool) (i : Nat) : Int := (((List.range n).countP fun k => lt k i : Nat) : Int)
structure Ord (n : Nat) (lt : Nat → Nat → Bool) : Prop where
  irr : ∀ i, i < n → lt i i = false
  tr : ∀ i j k, i < n → j < n → k < n → lt i j = true → lt j k = true → lt i k = true
  neg : ∀ i j k, i < n → j < n → k < n → lt i k = true → lt i j = true ∨ lt j k = true
theorem Ord.rank {n : Nat} {lt : Nat → Nat → Bool} (o : Ord n lt) {i j : Nat} (hi : i < n) (hj : j < n) : decide (rank n lt i < rank n lt j) = lt i j := by
  cases h : lt i j with
  | true =>
    apply decide_eq_true
    have : (List.range n).countP (fun k => lt k i) < (List.range n).countP fun k => lt k j := countP_lt (fun k hk e => o.tr k i j (List.mem_range.mp hk) hi hj e h) ⟨i, List.mem_range.mpr hi, h, o.irr i hi⟩
    unfold L2.rank
    omega
  | false =>
    apply decide_eq_false
    have : (List.range n).countP (fun k => lt k j) ≤ (List.range n).countP fun k => lt k i := List.countP_mono_left fun k hk e => by
      rcases o.neg k i j (List.mem_range.mp hk) hi hj e with e | e
      · exact e
      · rw [h] at e; cases e
    unfold L2.rank
    omega
section
variable {P : Program} {w : World} {A : Around} {H : Hp}
end
end L2
namespace L2.Srt
open PySem PySem.W PyProof.Rows
end L2.Srt
namespace L2
open PySem PySem.Spec PyProof.Rows Srt
section
variable {P : Program} {w : World} {A : Around} {H : Hp}
end
end L2
namespace L2
open PySem PySem.Spec PyProof.Rows
section
variable {X : Cx}
end
end L2
namespace L2
open PySem PySem.Spec PyProof.Rows
section
variable {X : Cx} {pins : List (Addr × Obj)} {σ σ' : St} {H H0 : Hp} {s s0 : Shared} {a : Addr} {kvs kvs' : List (Key × V)} {o : Obj}
end
section
variable {X : Cx} {tg : Expr}
end
section
variable {X : Cx}
end
end L2
namespace L2
open PySem PySem.Spec PyProof.Rows
section
variable {X : Cx}
end
end L2
namespace L2.Srt
open PySem PySem.W PyProof.Rows PySem.Spec
section
variable {prog : Program} {w : World} {A : Around} {E : Value → Shared → Prop} {s : Shared}
end
end L2.Srt
namespace L2
open PySem PySem.Spec PyProof.Rows Srt
section
variable {X : Cx}
end
end L2
namespace Pc
open PySem PySem.Spec L2 PyProof.Rows
section
variable {κ : Type} [DecidableEq κ]
theorem mem_put {kvs : List (κ × V)} {k : κ} {v : V} {p : κ × V} (h : p ∈ putK kvs k v) : p ∈ kvs ∨ p = (k, v) := by
  unfold putK at h
  split at h
  · obtain ⟨q, hq, rfl⟩ := List.mem_map.mp h
    by_cases e : q.1 = k
    · rw [if_pos e, e]
      exact .inr rfl
    · rw [if_neg e]
      exact .inl hq
  · rcases List.mem_append.mp h with h | h
    · exact .inl h
    · exact .inr (List.mem_singleton.mp h)
end
inductive RowAt (vals kvs : List (Key × V)) : List V → Int → Int → Prop
  | put (b n : Int) : RowAt vals kvs [.str "put", .int b, .int n] b n
  | load (b : Int) (z : Str) (n : Int) (h : valV vals (Sum.inr z) = some (.int n)) : RowAt vals kvs [.str "load", .int b, .str z] b n
  | neg (b x m : Int) (h : valV kvs (Sum.inl x) = some (.int m)) (b1 : bitsOk m) : RowAt vals kvs [.str "neg", .int b, .int x] b (-m)
  | bin (z : Str) (b x y m n : Int) (hz : arS z = 2) (h1 : valV kvs (Sum.inl x) = some (.int m)) (h2 : valV kvs (Sum.inl y) = some (.int n)) (b1 : bitsOk m) (b2 : bitsOk n) : RowAt vals kvs [.str z, .int b, .int x, .int y] b (opN z m n)
def boxes (fs : List (Int × Int)) : List (Key × V) := fs.foldl (fun k p => putK k (Sum.inl p.1) (.int p.2)) []
theorem boxes_snoc (fs : List (Int × Int)) (b n : Int) : boxes (fs ++ [(b, n)]) = putK (boxes fs) (Sum.inl b) (.int n) := by
  unfold boxes
  rw [List.foldl_append]
  rfl
def RunsAt (vals : List (Key × V)) (ts : List (List V)) (fs : List (Int × Int)) : Prop := ts.length = fs.length ∧ ∀ (i : Nat) (p : Int × Int), fs[i]? = some p → ∃ t, ts[i]? = some t ∧ RowAt vals (boxes (fs.take i)) t p.1 p.2
theorem RunsAt.nil (vals : List (Key × V)) : RunsAt vals [] [] := ⟨rfl, fun i p h => by simp at h⟩
theorem RunsAt.snoc {vals : List (Key × V)} {ts : List (List V)} {fs : List (Int × Int)} (h : RunsAt vals ts fs) {t : List V} {b n : Int} (r : RowAt vals (boxes fs) t b n) : RunsAt vals (ts ++ [t]) (fs ++ [(b, n)]) := by
  refine ⟨by rw [List.length_append, List.length_append, h.1]; rfl, fun i p hp => ?_⟩
  by_cases hi : i < fs.length
  · rw [List.getElem?_append_left hi] at hp
    obtain ⟨t', h1, h2⟩ := h.2 i p hp
    exact ⟨t', by rw [List.getElem?_append_left (by rw [h.1]; exact hi)]; exact h1, by rw [List.take_append_of_le_length (Nat.le_of_lt hi)]; exact h2⟩
  · have hl := (List.getElem?_eq_some_iff.mp hp).1
    rw [List.length_append, List.length_singleton] at hl
    have e : i = fs.length := by omega
    subst e
    rw [List.getElem?_append_right (Nat.le_refl _), Nat.sub_self] at hp
    have e : (b, n) = p := Option.some.inj hp
    subst e
    refine ⟨t, by rw [List.getElem?_append_right (by rw [h.1]; exact Nat.le_refl _), h.1, Nat.sub_self]; rfl, ?_⟩
    rw [List.take_left' rfl]
    exact r
def RowsIn (H : Hp) (rs : List V) (ts : List (List V)) : Prop := rs.length = ts.length ∧ ∀ (i : Nat) (t : List V), ts[i]? = some t → ∃ a, rs[i]? = some (.ref a) ∧ H a = some (.tup t)
theorem RowsIn.same {H H' : Hp} {rs : List V} {ts : List (List V)} (h : RowsIn H rs ts) (s : Same H H') : RowsIn H' rs ts := ⟨h.1, fun i t ht => by
  obtain ⟨a, h1, h2⟩ := h.2 i t ht
  exact ⟨a, h1, s _ _ h2⟩⟩
theorem RowsIn.nil (H : Hp) : RowsIn H [] [] := ⟨rfl, fun i t h => by simp at h⟩
theorem RowsIn.snoc {H : Hp} {rs : List V} {ts : List (List V)} (h : RowsIn H rs ts) {a : Addr} {t : List V} (ha : H a = some (.tup t)) : RowsIn H (rs ++ [.ref a]) (ts ++ [t]) := by
  refine ⟨by rw [List.length_append, List.length_append, h.1]; rfl, fun i u hu => ?_⟩
  by_cases hi : i < ts.length
  · rw [List.getElem?_append_left hi] at hu
    obtain ⟨b, h1, h2⟩ := h.2 i u hu
    exact ⟨b, by rw [List.getElem?_append_left (by rw [h.1]; exact hi)]; exact h1, h2⟩
  · have hl := (List.getElem?_eq_some_iff.mp hu).1
    rw [List.length_append, List.length_singleton] at hl
    have e : i = ts.length := by omega
    subst e
    rw [List.getElem?_append_right (Nat.le_refl _), Nat.sub_self] at hu
    have e : t = u := Option.some.inj hu
    subst e
    exact ⟨a, by rw [List.getElem?_append_right (by rw [h.1]; exact Nat.le_refl _), h.1, Nat.sub_self]; rfl, ha⟩
def BoxB (e : Nat) (fs : List (Int × Int)) : Prop := ∀ b m : Int, (Sum.inl b, V.int m) ∈ boxes fs → m.natAbs < 2 ^ e
theorem BoxB.nil (e : Nat) : BoxB e [] := fun b m h => by cases h
theorem BoxB.le {e e' : Nat} {fs : List (Int × Int)} (h : BoxB e fs) (l : e ≤ e') : BoxB e' fs := fun b m hm => Nat.lt_of_lt_of_le (h b m hm) (Nat.pow_le_pow_right (by decide) l)
theorem BoxB.snoc {e : Nat} {fs : List (Int × Int)} (h : BoxB e fs) {b n : Int} (hn : n.natAbs < 2 ^ e) : BoxB e (fs ++ [(b, n)]) := fun x m hm => by
  rw [boxes_snoc] at hm
  rcases mem_put hm with z | z
  · exact h x m z
  · cases z
    exact hn
end Pc
namespace Pc
open PySem PySem.Spec L2 PyProof.Rows
end Pc
namespace Pc
open PySem PySem.Spec L2 PyProof.Rows
end Pc
namespace L2
open PySem PySem.Spec PyProof.Rows PySem.SeqAt PySem.MeetsSeq PySem.MeetsSeq2 PySem.MeetsSeq3
open AutoSeq1 (wpAny_loadPart')
section
variable {P : Program} {w : World} {A : Around} {E : Value → Shared → Prop} {s : Shared}
end
section
variable {X : Cx}
end
end L2
namespace L2
open PySem
end L2
namespace Tim
open PySem PyProof.Rows
structure TB (a₀ : Array Keyed) (st : SortSt) : Prop where
  perm : (arrOf st).Perm a₀
  kind : kindOf st = oneType'
  failed : failedOf st = none
theorem TB.size {a₀ : Array Keyed} {st : SortSt} (h : TB a₀ st) : (arrOf st).size = a₀.size := h.perm.size_eq
theorem TB.setArr {a₀ : Array Keyed} {st : SortSt} (h : TB a₀ st) {xs : Array Keyed} (hp : xs.Perm (arrOf st)) : TB a₀ (setArr st xs) := ⟨hp.trans h.perm, h.kind, h.failed⟩
theorem IntKeys.perm {xs ys : Array Keyed} (h : IntKeys ys) (p : xs.Perm ys) : IntKeys xs := fun q hq => h q ((Array.perm_iff_toList_perm.mp p).mem_iff.mp hq)
def Seg (xs : Array Keyed) (lo hi : Nat) : Prop := ∀ i j, lo ≤ i → i ≤ j → j < hi → K xs i ≤ K xs j
def Dsc (xs : Array Keyed) (lo hi : Nat) : Prop := ∀ i j, lo ≤ i → i ≤ j → j < hi → K xs j ≤ K xs i
theorem Seg.one (xs : Array Keyed) (lo : Nat) : Seg xs lo (lo + 1) := fun i j h1 h2 h3 => by
  have : i = j := by omega
  subst this
  exact Int.le_refl _
theorem Seg.more {xs : Array Keyed} {lo hi : Nat} (h : Seg xs lo hi) (hl : lo < hi) (e : K xs (hi - 1) ≤ K xs hi) : Seg xs lo (hi + 1) := fun i j h1 h2 h3 => by
  by_cases hj : j < hi
  · exact h i j h1 h2 hj
  · have hj' : j = hi := by omega
    subst hj'
    by_cases hi' : i = j
    · subst hi'; exact Int.le_refl _
    · exact Int.le_trans (h i (j - 1) h1 (by omega) (by omega)) e
theorem Dsc.more {xs : Array Keyed} {lo hi : Nat} (h : Dsc xs lo hi) (hl : lo < hi) (e : K xs hi ≤ K xs (hi - 1)) : Dsc xs lo (hi + 1) := fun i j h1 h2 h3 => by
  by_cases hj : j < hi
  · exact h i j h1 h2 hj
  · have hj' : j = hi := by omega
    subst hj'
    by_cases hi' : i = j
    · subst hi'; exact Int.le_refl _
    · exact Int.le_trans e (h i (j - 1) h1 (by omega) (by omega))
theorem Seg.congr {xs ys : Array Keyed} {lo hi : Nat} (h : Seg xs lo hi) (e : ∀ k, lo ≤ k → k < hi → K ys k = K xs k) : Seg ys lo hi := fun i j h1 h2 h3 => by
  rw [e i h1 (by omega), e j (by omega) h3]
  exact h i j h1 h2 h3
theorem Dsc.congr {xs ys : Array Keyed} {lo hi : Nat} (h : Dsc xs lo hi) (e : ∀ k, lo ≤ k → k < hi → K ys k = K xs k) : Dsc ys lo hi := fun i j h1 h2 h3 => by
  rw [e i h1 (by omega), e j (by omega) h3]
  exact h i j h1 h2 h3
theorem Dsc.turn {xs : Array Keyed} {lo hi : Nat} (h : Dsc xs lo hi) (hs : hi ≤ xs.size) : Seg (mirror xs lo hi ((hi - lo) / 2)) lo hi := fun i j h1 h2 h3 => by
  rw [K_mirror hs, K_mirror hs, if_pos ⟨h1, by omega⟩, if_pos ⟨by omega, h3⟩]
  exact h _ _ (by omega) (by omega) (by omega)
structure Kept (lo : Nat) (st st' : SortSt) : Prop where
  pend : pendingOf st' = pendingOf st
  low : ∀ k, k < lo → K (arrOf st') k = K (arrOf st) k
theorem Kept.refl (lo : Nat) (st : SortSt) : Kept lo st st := ⟨rfl, fun _ _ => rfl⟩
theorem Kept.arr {lo : Nat} {st : SortSt} {xs : Array Keyed} (e : ∀ k, k < lo → K xs k = K (arrOf st) k) : Kept lo st (setArr st xs) := ⟨rfl, e⟩
theorem Kept.trans {lo : Nat} {a b c : SortSt} (h : Kept lo a b) (g : Kept lo b c) : Kept lo a c := ⟨g.pend.trans h.pend, fun k hk => (g.low k hk).trans (h.low k hk)⟩
section
variable {prog : Program} {w : World} {A : Around} {E : Value → Shared → Prop} {s : Shared} {a₀ : Array Keyed}
end
end Tim
namespace Tim
open PySem PyProof.Rows
section
variable {prog : Program} {w : World} {A : Around} {E : Value → Shared → Prop} {s : Shared} {a₀ : Array Keyed}
end
end Tim
namespace Tim
open PySem PyProof.Rows
section
variable {prog : Program} {w : World} {A : Around} {E : Value → Shared → Prop} {s : Shared} {a₀ : Array Keyed}
end
end Tim
namespace Tim
open PySem PyProof.Rows
def keyN (p : Keyed) : Int := numOf p.1
section
variable {prog : Program} {w : World} {A : Around} {E : Value → Shared → Prop} {s : Shared}
end
end Tim
namespace Tim
open PySem PyProof.Rows
def Srt (l : List Keyed) : Prop := l.Pairwise fun x y => keyN x ≤ keyN y
structure Out (o ra rb all : List Keyed) : Prop where
  perm : (o ++ ra ++ rb).Perm all
  srt : Srt o
  sa : Srt ra
  sb : Srt rb
  low : ∀ x ∈ o, ∀ y, y ∈ ra ∨ y ∈ rb → keyN x ≤ keyN y
theorem Srt.split {l : List Keyed} (h : Srt l) (k : Nat) : Srt (l.take k) ∧ Srt (l.drop k) ∧ ∀ x ∈ l.take k, ∀ y ∈ l.drop k, keyN x ≤ keyN y := by
  have e : l.take k ++ l.drop k = l := List.take_append_drop k l
  unfold Srt at h ⊢
  rw [← e, List.pairwise_append] at h
  exact ⟨h.1, h.2.1, h.2.2⟩
theorem Out.takeA {o ra rb all : List Keyed} (h : Out o ra rb all) (k : Nat) (hk : ∀ x ∈ ra.take k, ∀ y ∈ rb, keyN x ≤ keyN y) : Out (o ++ ra.take k) (ra.drop k) rb all := by
  obtain ⟨s1, s2, s3⟩ := h.sa.split k
  refine ⟨?_, ?_, s2, h.sb, fun x hx y hy => ?_⟩
  · rw [List.append_assoc o, List.take_append_drop]
    exact h.perm
  · unfold Srt
    rw [List.pairwise_append]
    exact ⟨h.srt, s1, fun x hx y hy => h.low x hx y (.inl (List.mem_of_mem_take hy))⟩
  · rcases List.mem_append.mp hx with k1 | k1
    · exact h.low x k1 y (hy.imp List.mem_of_mem_drop id)
    · rcases hy with hy | hy
      · exact s3 x k1 y hy
      · exact hk x k1 y hy
theorem Out.takeB {o ra rb all : List Keyed} (h : Out o ra rb all) (k : Nat) (hk : ∀ x ∈ rb.take k, ∀ y ∈ ra, keyN x ≤ keyN y) : Out (o ++ rb.take k) ra (rb.drop k) all := by
  obtain ⟨s1, s2, s3⟩ := h.sb.split k
  refine ⟨?_, ?_, h.sa, s2, fun x hx y hy => ?_⟩
  · refine List.Perm.trans ?_ h.perm
    conv => rhs; rw [← List.take_append_drop k rb]
    rw [List.append_assoc, List.append_assoc, List.append_assoc]
    refine List.Perm.append_left o ?_
    rw [← List.append_assoc, ← List.append_assoc]
    exact List.Perm.append_right _ List.perm_append_comm
  · unfold Srt
    rw [List.pairwise_append]
    exact ⟨h.srt, s1, fun x hx y hy => h.low x hx y (.inr (List.mem_of_mem_take hy))⟩
  · rcases List.mem_append.mp hx with k1 | k1
    · exact h.low x k1 y (hy.imp id List.mem_of_mem_drop)
    · rcases hy with hy | hy
      · exact hk x k1 y hy
      · exact s3 x k1 y hy
theorem Out.done {o ra rb all : List Keyed} (h : Out o ra rb all) (he : ra = [] ∨ rb = []) : (o ++ ra ++ rb).Perm all ∧ Srt (o ++ ra ++ rb) := by
  refine ⟨h.perm, ?_⟩
  unfold Srt
  rcases he with rfl | rfl
  · rw [List.append_nil, List.pairwise_append]
    exact ⟨h.srt, h.sb, fun x hx y hy => h.low x hx y (.inr hy)⟩
  · rw [List.append_nil, List.pairwise_append]
    exact ⟨h.srt, h.sa, fun x hx y hy => h.low x hx y (.inl hy)⟩
theorem Out.last {o ra rb all : List Keyed} (h : Out o ra rb all) (he : ∀ y ∈ rb, ∀ x ∈ ra, keyN y ≤ keyN x) : (o ++ rb ++ ra).Perm all ∧ Srt (o ++ rb ++ ra) := by
  refine ⟨?_, ?_⟩
  · refine List.Perm.trans ?_ h.perm
    rw [List.append_assoc, List.append_assoc]
    exact List.Perm.append_left o List.perm_append_comm
  · unfold Srt
    rw [List.pairwise_append, List.pairwise_append]
    refine ⟨⟨h.srt, h.sb, fun x hx y hy => h.low x hx y (.inr hy)⟩, h.sa, fun x hx y hy => ?_⟩
    rcases List.mem_append.mp hx with k | k
    · exact h.low x k y (.inl hy)
    · exact he x k y hy
structure Lk (st st' : SortSt) : Prop where
  kind : kindOf st' = kindOf st
  arr : arrOf st' = arrOf st
  pend : pendingOf st' = pendingOf st
  failed : failedOf st' = failedOf st
theorem Lk.refl (st : SortSt) : Lk st st := ⟨rfl, rfl, rfl, rfl⟩
theorem Lk.trans {a b c : SortSt} (h : Lk a b) (g : Lk b c) : Lk a c := ⟨g.kind.trans h.kind, g.arr.trans h.arr, g.pend.trans h.pend, g.failed.trans h.failed⟩
end Tim
namespace Tim
open PySem PyProof.Rows
theorem drop_cons {a : Array Keyed} {i : Nat} {x : Keyed} (e : a[i]? = some x) : a.toList.drop i = x :: a.toList.drop (i + 1) := by
  have e' : a.toList[i]? = some x := by rw [Array.getElem?_toList]; exact e
  obtain ⟨h, rfl⟩ := List.getElem?_eq_some_iff.mp e'
  exact List.drop_eq_getElem_cons h
theorem K_of {a : Array Keyed} {i : Nat} {x : Keyed} (e : a[i]? = some x) : K a i = keyN x := by
  unfold K
  rw [e]
  rfl
theorem mem_drop {a : Array Keyed} {i : Nat} {x : Keyed} (h : x ∈ a.toList.drop i) : ∃ j, i ≤ j ∧ j < a.size ∧ keyN x = K a j := by
  obtain ⟨k, hk, e⟩ := List.getElem_of_mem h
  rw [List.length_drop] at hk
  have hl : a.toList.length = a.size := Array.length_toList
  refine ⟨i + k, by omega, by omega, ?_⟩
  refine (K_of ?_).symm
  rw [← Array.getElem?_toList, ← e, List.getElem_drop]
  exact List.getElem?_eq_getElem (by omega)
theorem mem_take {a : Array Keyed} {i : Nat} {x : Keyed} (h : x ∈ a.toList.take i) : ∃ j, j < i ∧ j < a.size ∧ keyN x = K a j := by
  obtain ⟨k, hk, e⟩ := List.getElem_of_mem h
  rw [List.length_take] at hk
  have hl : a.toList.length = a.size := Array.length_toList
  refine ⟨k, by omega, by omega, ?_⟩
  refine (K_of ?_).symm
  rw [← Array.getElem?_toList, ← e, List.getElem_take]
  exact List.getElem?_eq_getElem (by omega)
theorem mem_mid {a : Array Keyed} {i k : Nat} {x : Keyed} (h : x ∈ (a.toList.drop i).take k) : ∃ j, i ≤ j ∧ j < i + k ∧ j < a.size ∧ keyN x = K a j := by
  obtain ⟨m, hm, e⟩ := List.getElem_of_mem h
  rw [List.length_take, List.length_drop] at hm
  have hl : a.toList.length = a.size := Array.length_toList
  refine ⟨i + m, by omega, by omega, by omega, ?_⟩
  refine (K_of ?_).symm
  rw [← Array.getElem?_toList, ← e, List.getElem_take, List.getElem_drop]
  exact List.getElem?_eq_getElem (by omega)
theorem srt_of {a : Array Keyed} (h : Seg a 0 a.size) : Srt a.toList := by
  unfold Srt
  rw [List.pairwise_iff_getElem]
  intro i j hi hj hij
  have hl : a.toList.length = a.size := Array.length_toList
  have e1 : a[i]? = some a.toList[i] := by rw [← Array.getElem?_toList]; exact List.getElem?_eq_getElem hi
  have e2 : a[j]? = some a.toList[j] := by rw [← Array.getElem?_toList]; exact List.getElem?_eq_getElem hj
  rw [← K_of e1, ← K_of e2]
  exact h i j (by omega) (by omega) (by omega)
theorem ext_list (a : Array Keyed) (i j : Nat) : (a.extract i j).toList = (a.toList.drop i).take (j - i) := by
  rw [Array.toList_extract, List.extract_eq_take_drop]
def Inv (a b out : Array Keyed) (ia ib : Nat) : Prop := Out out.toList (a.toList.drop ia) (b.toList.drop ib) (a.toList ++ b.toList)
def Good (a b r : Array Keyed) : Prop := r.toList.Perm (a.toList ++ b.toList) ∧ Srt r.toList
section
variable {a b out : Array Keyed} {ia ib : Nat}
theorem Inv.start (ha : Seg a 0 a.size) (hb : Seg b 0 b.size) : Inv a b #[] 0 0 := ⟨List.Perm.refl _, List.Pairwise.nil, srt_of ha, srt_of hb, fun x hx => nomatch hx⟩
theorem Inv.as (h : Inv a b out ia ib) (hb : Seg b 0 b.size) (k : Nat) (hk : ∀ j, ia ≤ j → j < ia + k → K a j ≤ K b ib) : Inv a b (out ++ a.extract ia (ia + k)) (ia + k) ib := by
  have z := Out.takeA h k fun x hx y hy => by
    obtain ⟨j, h1, h2, h3, e⟩ := mem_mid hx
    obtain ⟨m, g1, g2, e2⟩ := mem_drop hy
    rw [e, e2]
    exact Int.le_trans (hk j h1 h2) (hb ib m (by omega) g1 g2)
  unfold Inv
  rw [Array.toList_append, ext_list, show ia + k - ia = k by omega, ← List.drop_drop]
  exact z
theorem Inv.bs (h : Inv a b out ia ib) (ha : Seg a 0 a.size) (k : Nat) (hk : ∀ j, ib ≤ j → j < ib + k → K b j ≤ K a ia) : Inv a b (out ++ b.extract ib (ib + k)) ia (ib + k) := by
  have z := Out.takeB h k fun x hx y hy => by
    obtain ⟨j, h1, h2, h3, e⟩ := mem_mid hx
    obtain ⟨m, g1, g2, e2⟩ := mem_drop hy
    rw [e, e2]
    exact Int.le_trans (hk j h1 h2) (ha ia m (by omega) g1 g2)
  unfold Inv
  rw [Array.toList_append, ext_list, show ib + k - ib = k by omega, ← List.drop_drop]
  exact z
theorem ext_one {a : Array Keyed} {i : Nat} {x : Keyed} (e : a[i]? = some x) : out.push x = out ++ a.extract i (i + 1) := by
  apply Array.toList_inj.mp
  rw [Array.toList_push, Array.toList_append, ext_list, drop_cons e, show i + 1 - i = 1 by omega]
  rfl
theorem Inv.a1 (h : Inv a b out ia ib) (hb : Seg b 0 b.size) {x : Keyed} (e : a[ia]? = some x) (hk : K a ia ≤ K b ib) : Inv a b (out.push x) (ia + 1) ib := by
  rw [ext_one e]
  exact h.as hb 1 fun j h1 h2 => by
    have : j = ia := by omega
    subst this
    exact hk
theorem Inv.b1 (h : Inv a b out ia ib) (ha : Seg a 0 a.size) {x : Keyed} (e : b[ib]? = some x) (hk : K b ib ≤ K a ia) : Inv a b (out.push x) ia (ib + 1) := by
  rw [ext_one e]
  exact h.bs ha 1 fun j h1 h2 => by
    have : j = ib := by omega
    subst this
    exact hk
theorem ext_end (a : Array Keyed) (i : Nat) : (a.extract i a.size).toList = a.toList.drop i := by
  rw [ext_list]
  exact List.take_of_length_le (by rw [List.length_drop, Array.length_toList]; omega)
theorem Inv.fin (h : Inv a b out ia ib) (e : ia = a.size ∨ ib = b.size) : Good a b (out ++ a.extract ia a.size ++ b.extract ib b.size) := by
  unfold Good
  rw [Array.toList_append, Array.toList_append, ext_end, ext_end]
  refine Out.done h (e.imp ?_ ?_)
  · intro e; exact List.drop_eq_nil_of_le (by rw [Array.length_toList]; omega)
  · intro e; exact List.drop_eq_nil_of_le (by rw [Array.length_toList]; omega)
theorem Inv.last (h : Inv a b out ia ib) (e : ia + 1 = a.size) (hl : ∀ j, j < b.size → K b j ≤ K a (a.size - 1)) : Good a b (out ++ b.extract ib b.size ++ a.extract ia a.size) := by
  unfold Good
  rw [Array.toList_append, Array.toList_append, ext_end, ext_end]
  refine Out.last h fun y hy x hx => ?_
  obtain ⟨j, h1, h2, e1⟩ := mem_drop hx
  obtain ⟨m, g1, g2, e2⟩ := mem_drop hy
  rw [e1, e2, show j = a.size - 1 by omega]
  exact hl m g2
end
section
variable {prog : Program} {w : World} {A : Around} {E : Value → Shared → Prop} {s : Shared}
theorem Seg.from {a : Array Keyed} {i n : Nat} (h : Seg a 0 a.size) (e : i + n = a.size) : Seg a i (i + n) := fun x y h1 h2 h3 => h x y (by omega) h2 (by omega)
end
end Tim
namespace Tim
open PySem PyProof.Rows
structure Ouh (o ra rb all : List Keyed) : Prop where
  perm : (ra ++ rb ++ o).Perm all
  srt : Srt o
  sa : Srt ra
  sb : Srt rb
  high : ∀ x ∈ o, ∀ y, y ∈ ra ∨ y ∈ rb → keyN y ≤ keyN x
theorem Ouh.takeA {o ra rb all : List Keyed} (h : Ouh o ra rb all) (k : Nat) (hk : ∀ x ∈ ra.drop k, ∀ y ∈ rb, keyN y ≤ keyN x) : Ouh (ra.drop k ++ o) (ra.take k) rb all := by
  obtain ⟨s1, s2, s3⟩ := h.sa.split k
  refine ⟨?_, ?_, s1, h.sb, fun x hx y hy => ?_⟩
  · refine List.Perm.trans ?_ h.perm
    conv => rhs; rw [← List.take_append_drop k ra]
    rw [← List.append_assoc]
    refine List.Perm.append_right o ?_
    rw [List.append_assoc, List.append_assoc]
    exact List.Perm.append_left _ List.perm_append_comm
  · unfold Srt
    rw [List.pairwise_append]
    exact ⟨s2, h.srt, fun x hx y hy => h.high y hy x (.inl (List.mem_of_mem_drop hx))⟩
  · rcases List.mem_append.mp hx with k1 | k1
    · rcases hy with hy | hy
      · exact s3 y hy x k1
      · exact hk x k1 y hy
    · exact h.high x k1 y (hy.imp List.mem_of_mem_take id)
theorem Ouh.takeB {o ra rb all : List Keyed} (h : Ouh o ra rb all) (k : Nat) (hk : ∀ x ∈ rb.drop k, ∀ y ∈ ra, keyN y ≤ keyN x) : Ouh (rb.drop k ++ o) ra (rb.take k) all := by
  obtain ⟨s1, s2, s3⟩ := h.sb.split k
  refine ⟨?_, ?_, h.sa, s1, fun x hx y hy => ?_⟩
  · refine List.Perm.trans ?_ h.perm
    conv => rhs; rw [← List.take_append_drop k rb]
    rw [← List.append_assoc, ← List.append_assoc]
  · unfold Srt
    rw [List.pairwise_append]
    exact ⟨s2, h.srt, fun x hx y hy => h.high y hy x (.inr (List.mem_of_mem_drop hx))⟩
  · rcases List.mem_append.mp hx with k1 | k1
    · rcases hy with hy | hy
      · exact hk x k1 y hy
      · exact s3 y hy x k1
    · exact h.high x k1 y (hy.imp id List.mem_of_mem_take)
theorem Ouh.done {o ra rb all : List Keyed} (h : Ouh o ra rb all) (he : ra = [] ∨ rb = []) : (ra ++ rb ++ o).Perm all ∧ Srt (ra ++ rb ++ o) := by
  refine ⟨h.perm, ?_⟩
  unfold Srt
  rcases he with rfl | rfl
  · rw [List.nil_append, List.pairwise_append]
    exact ⟨h.sb, h.srt, fun x hx y hy => h.high y hy x (.inr hx)⟩
  · rw [List.append_nil, List.pairwise_append]
    exact ⟨h.sa, h.srt, fun x hx y hy => h.high y hy x (.inl hx)⟩
theorem Ouh.first {o ra rb all : List Keyed} (h : Ouh o ra rb all) (he : ∀ y ∈ rb, ∀ x ∈ ra, keyN y ≤ keyN x) : (rb ++ ra ++ o).Perm all ∧ Srt (rb ++ ra ++ o) := by
  refine ⟨?_, ?_⟩
  · refine List.Perm.trans ?_ h.perm
    exact List.Perm.append_right o List.perm_append_comm
  · unfold Srt
    rw [List.pairwise_append, List.pairwise_append]
    refine ⟨⟨h.sb, h.sa, he⟩, h.srt, fun x hx y hy => ?_⟩
    rcases List.mem_append.mp hx with k | k
    · exact h.high y hy x (.inr k)
    · exact h.high y hy x (.inl k)
def InvH (a b out : Array Keyed) (na nb : Nat) : Prop := Ouh out.toList.reverse (a.toList.take na) (b.toList.take nb) (a.toList ++ b.toList)
theorem mem_low {a : Array Keyed} {i k : Nat} {x : Keyed} (h : x ∈ (a.toList.take k).drop i) : ∃ j, i ≤ j ∧ j < k ∧ j < a.size ∧ keyN x = K a j := by
  obtain ⟨m, hm, e⟩ := List.getElem_of_mem h
  rw [List.length_drop, List.length_take] at hm
  have hl : a.toList.length = a.size := Array.length_toList
  refine ⟨i + m, by omega, by omega, by omega, ?_⟩
  refine (K_of ?_).symm
  rw [← Array.getElem?_toList, ← e, List.getElem_drop, List.getElem_take]
  exact List.getElem?_eq_getElem (by omega)
theorem ext_low (a : Array Keyed) (i k : Nat) : (a.extract i k).toList = (a.toList.take k).drop i := by
  rw [ext_list, List.drop_take]
section
variable {a b out : Array Keyed} {na nb : Nat}
theorem InvH.start (ha : Seg a 0 a.size) (hb : Seg b 0 b.size) : InvH a b #[] a.size b.size := by
  have e1 : a.toList.take a.size = a.toList := List.take_of_length_le (by rw [Array.length_toList]; omega)
  have e2 : b.toList.take b.size = b.toList := List.take_of_length_le (by rw [Array.length_toList]; omega)
  unfold InvH
  rw [e1, e2]
  exact ⟨by show (a.toList ++ b.toList ++ []).Perm _; rw [List.append_nil], List.Pairwise.nil, srt_of ha, srt_of hb, fun x hx => nomatch hx⟩
theorem InvH.as (h : InvH a b out na nb) (hb : Seg b 0 b.size) (hnb : 1 ≤ nb) (hnb2 : nb ≤ b.size) (k : Nat) (hkn : k ≤ na) (hk : ∀ j, k ≤ j → j < na → K b (nb - 1) ≤ K a j) : InvH a b (out ++ (a.extract k na).reverse) k nb := by
  have z := Ouh.takeA h k fun x hx y hy => by
    obtain ⟨j, h1, h2, h3, e⟩ := mem_low hx
    obtain ⟨m, g1, g2, e2⟩ := mem_take hy
    rw [e, e2]
    exact Int.le_trans (hb m (nb - 1) (by omega) (by omega) (by omega)) (hk j h1 h2)
  unfold InvH
  rw [Array.toList_append, Array.toList_reverse, List.reverse_append, List.reverse_reverse, ext_low]
  rw [List.take_take, show min k na = k by omega] at z
  exact z
theorem InvH.bs (h : InvH a b out na nb) (ha : Seg a 0 a.size) (hna : 1 ≤ na) (hna2 : na ≤ a.size) (k : Nat) (hkn : k ≤ nb) (hk : ∀ j, k ≤ j → j < nb → K a (na - 1) ≤ K b j) : InvH a b (out ++ (b.extract k nb).reverse) na k := by
  have z := Ouh.takeB h k fun x hx y hy => by
    obtain ⟨j, h1, h2, h3, e⟩ := mem_low hx
    obtain ⟨m, g1, g2, e2⟩ := mem_take hy
    rw [e, e2]
    exact Int.le_trans (ha m (na - 1) (by omega) (by omega) (by omega)) (hk j h1 h2)
  unfold InvH
  rw [Array.toList_append, Array.toList_reverse, List.reverse_append, List.reverse_reverse, ext_low]
  rw [List.take_take, show min k nb = k by omega] at z
  exact z
theorem ext_oneR {a : Array Keyed} {i : Nat} {x : Keyed} (hi : 1 ≤ i) (e : a[i - 1]? = some x) : out.push x = out ++ (a.extract (i - 1) i).reverse := by
  apply Array.toList_inj.mp
  rw [Array.toList_push, Array.toList_append, Array.toList_reverse, ext_list, drop_cons e, show i - (i - 1) = 1 by omega]
  rfl
theorem InvH.a1 (h : InvH a b out na nb) (hb : Seg b 0 b.size) (hnb : 1 ≤ nb) (hnb2 : nb ≤ b.size) {x : Keyed} (hna : 1 ≤ na) (e : a[na - 1]? = some x) (hk : K b (nb - 1) ≤ K a (na - 1)) : InvH a b (out.push x) (na - 1) nb := by
  rw [ext_oneR hna e]
  exact h.as hb hnb hnb2 _ (by omega) fun j h1 h2 => by
    have : j = na - 1 := by omega
    subst this
    exact hk
theorem InvH.b1 (h : InvH a b out na nb) (ha : Seg a 0 a.size) (hna : 1 ≤ na) (hna2 : na ≤ a.size) {x : Keyed} (hnb : 1 ≤ nb) (e : b[nb - 1]? = some x) (hk : K a (na - 1) ≤ K b (nb - 1)) : InvH a b (out.push x) na (nb - 1) := by
  rw [ext_oneR hnb e]
  exact h.bs ha hna hna2 _ (by omega) fun j h1 h2 => by
    have : j = nb - 1 := by omega
    subst this
    exact hk
theorem ext_start (a : Array Keyed) (i : Nat) : (a.extract 0 i).toList = a.toList.take i := by
  rw [ext_list]
  rfl
theorem InvH.fin (h : InvH a b out na nb) (e : na = 0 ∨ nb = 0) : Good a b (a.extract 0 na ++ b.extract 0 nb ++ out.reverse) := by
  unfold Good
  rw [Array.toList_append, Array.toList_append, ext_start, ext_start, Array.toList_reverse]
  refine Ouh.done h (e.imp ?_ ?_)
  · rintro rfl; rfl
  · rintro rfl; rfl
theorem InvH.first (h : InvH a b out na nb) (e : nb = 1) (hl : ∀ j, j < a.size → K b 0 ≤ K a j) : Good a b (b.extract 0 nb ++ a.extract 0 na ++ out.reverse) := by
  unfold Good
  rw [Array.toList_append, Array.toList_append, ext_start, ext_start, Array.toList_reverse]
  refine Ouh.first h fun y hy x hx => ?_
  obtain ⟨j, h1, h2, e1⟩ := mem_take hx
  obtain ⟨m, g1, g2, e2⟩ := mem_take hy
  rw [e1, e2, show m = 0 by omega]
  exact hl j h2
end
section
variable {prog : Program} {w : World} {A : Around} {E : Value → Shared → Prop} {s : Shared}
theorem Seg.to {a : Array Keyed} {n : Nat} (h : Seg a 0 a.size) (e : n ≤ a.size) : Seg a 0 (0 + n) := fun x y h1 h2 h3 => h x y (by omega) h2 (by omega)
end
end Tim
namespace Tim
open PySem PyProof.Rows
def laid (s : Nat) (l : List Keyed) (n : Nat) (xs : Array Keyed) : Array Keyed := (l.zipIdx n).foldl (fun a (p, j) => a.setIfInBounds (s + j) p) xs
section
variable {prog : Program} {w : World} {A : Around} {E : Value → Shared → Prop} {s : Shared} {a₀ : Array Keyed}
end
end Tim
namespace Tim
open PySem PyProof.Rows
def Runs (xs : Array Keyed) : Nat → List (Nat × Nat × Nat) → Nat → Prop
  | lo, [], hi => lo = hi
  | lo, t :: r, hi => t.1 = lo ∧ 1 ≤ t.2.1 ∧ Seg xs lo (lo + t.2.1) ∧ Runs xs (lo + t.2.1) r hi
theorem Runs.app {xs : Array Keyed} {hi : Nat} {q : List (Nat × Nat × Nat)} : ∀ {p : List (Nat × Nat × Nat)} {lo : Nat}, Runs xs lo (p ++ q) hi ↔ ∃ m, Runs xs lo p m ∧ Runs xs m q hi
  | [], lo => ⟨fun h => ⟨lo, rfl, h⟩, fun ⟨m, h1, h2⟩ => by cases h1; exact h2⟩
  | t :: p, lo => by
    show (_ ∧ _ ∧ _ ∧ Runs xs _ (p ++ q) hi) ↔ ∃ m, (_ ∧ _ ∧ _ ∧ Runs xs _ p m) ∧ _
    rw [Runs.app (p := p)]
    exact ⟨fun ⟨a, b, c, m, d, e⟩ => ⟨m, ⟨a, b, c, d⟩, e⟩, fun ⟨m, ⟨a, b, c, d⟩, e⟩ => ⟨a, b, c, m, d, e⟩⟩
theorem Runs.le {xs : Array Keyed} {hi : Nat} : ∀ {p : List (Nat × Nat × Nat)} {lo : Nat}, Runs xs lo p hi → lo + p.length ≤ hi
  | [], lo, h => by cases h; exact Nat.le_refl _
  | t :: p, lo, ⟨_, h1, _, h2⟩ => by
    have := h2.le
    rw [List.length_cons]
    omega
theorem Runs.congr {xs ys : Array Keyed} {hi : Nat} : ∀ {p : List (Nat × Nat × Nat)} {lo : Nat}, Runs xs lo p hi → (∀ k, lo ≤ k → k < hi → K ys k = K xs k) → Runs ys lo p hi
  | [], lo, h, _ => h
  | t :: p, lo, ⟨h0, h1, h2, h3⟩, e => ⟨h0, h1, h2.congr fun k k1 k2 => e k k1 (by have := h3.le; omega), h3.congr fun k k1 k2 => e k (by omega) k2⟩
theorem Runs.same {xs : Array Keyed} {hi : Nat} : ∀ {p q : List (Nat × Nat × Nat)} {lo : Nat}, Runs xs lo p hi → q.map (fun t => (t.1, t.2.1)) = p.map (fun t => (t.1, t.2.1)) → Runs xs lo q hi
  | [], [], lo, h, _ => h
  | [], _ :: _, lo, h, e => by cases e
  | _ :: _, [], lo, h, e => by cases e
  | t :: p, u :: q, lo, ⟨h0, h1, h2, h3⟩, e => by
    rw [List.map_cons, List.map_cons, List.cons.injEq, Prod.mk.injEq] at e
    obtain ⟨⟨e1, e2⟩, e3⟩ := e
    refine ⟨e1.trans h0, by omega, by rw [e2]; exact h2, ?_⟩
    rw [e2]
    exact h3.same e3
section
variable {prog : Program} {w : World} {A : Around} {E : Value → Shared → Prop} {s : Shared} {a₀ : Array Keyed}
end
end Tim
namespace L2.Srt
open PySem PySem.W PyProof.Rows
section
variable {prog : Program} {w : World} {A : Around} {E : Value → Shared → Prop} {s : Shared}
end
end L2.Srt
namespace L2
open PySem PySem.Spec PyProof.Rows Srt
section
variable {X : Cx}
end
end L2
namespace L2.RvR
open PySem PySem.Spec PySem.Calls PyProof.Rows
section
variable {prog : Program} {w : World} {A : Around} {E : Value → Shared → Prop} {s : Shared}
end
end L2.RvR
namespace L2
open PySem PySem.Spec PyProof.Rows RvR
section
variable {X : Cx} {tg : Expr}
end
end L2
namespace L2
open PySem PySem.Spec PyProof.Rows
end L2
namespace Pc
end Pc
namespace Pc
open PySem PySem.Spec L2 PyProof.Rows
abbrev plV (q : Nat) : V := V.int ((q : Nat) : Int)
def Lists (H : Hp) (rs : List Addr) (f : Nat → List Nat) : Prop := ∀ q, q < rs.length → H (rs.getD q 0) = some (.lst ((f q).map plV))
theorem getD_mem {rs : List Addr} {q : Nat} (h : q < rs.length) : rs.getD q 0 ∈ rs := by
  rw [List.getD_eq_getElem?_getD, List.getElem?_eq_getElem h]
  exact List.getElem_mem h
theorem Lists.congr {H : Hp} {rs : List Addr} {f g : Nat → List Nat} (h : Lists H rs f) (e : ∀ q, q < rs.length → g q = f q) : Lists H rs g := fun q hq => by
  rw [e q hq]
  exact h q hq
theorem Lists.same {H H' : Hp} {rs : List Addr} {f : Nat → List Nat} (h : Lists H rs f) (s : Same H H') : Lists H' rs f := fun q hq => s _ _ (h q hq)
theorem Lists.other {H : Hp} {rs : List Addr} {f : Nat → List Nat} {b : Addr} {o : HO} (h : Lists H rs f) (hb : b ∉ rs) : Lists (upd H b o) rs f := fun q hq => by
  rw [upd_ne fun e => hb (by rw [← e]; exact getD_mem hq)]
  exact h q hq
theorem Lists.put {H : Hp} {rs : List Addr} {f : Nat → List Nat} {p : Nat} {xs : List Nat} (h : Lists H rs f) (nd : rs.Nodup) (hp : p < rs.length) : Lists (upd H (rs.getD p 0) (.lst (xs.map plV))) rs (fun q => if q = p then xs else f q) := fun q hq => by
  show upd H (rs.getD p 0) (.lst (xs.map plV)) (rs.getD q 0) = some (.lst ((if q = p then xs else f q).map plV))
  by_cases e : q = p
  · subst e
    rw [if_pos rfl, upd_same]
  · rw [if_neg e, upd_ne]
    · exact h q hq
    · intro z
      apply e
      rw [List.getD_eq_getElem?_getD, List.getD_eq_getElem?_getD, List.getElem?_eq_getElem hq, List.getElem?_eq_getElem hp] at z
      exact (List.getElem_inj nd).mp z
theorem Lists.out {H : Hp} {rs : List Addr} {f : Nat → List Nat} {b : Addr} (h : Lists H rs f) (hb : H b = none) : b ∉ rs := fun m => by
  obtain ⟨q, hq, e⟩ := List.getElem_of_mem m
  have := h q hq
  rw [List.getD_eq_getElem?_getD, List.getElem?_eq_getElem hq, e] at this
  rw [show (some b).getD 0 = b from rfl, hb] at this
  cases this
theorem Lists.snoc {H : Hp} {rs : List Addr} {r : Addr} (h : Lists H rs fun _ => []) (hr : H r = none) : Lists (upd H r (.lst [])) (rs ++ [r]) fun _ => [] := fun q hq => by
  rw [List.length_append, List.length_singleton] at hq
  by_cases e : q < rs.length
  · rw [List.getD_eq_getElem?_getD, List.getElem?_append_left e, ← List.getD_eq_getElem?_getD]
    exact (h.other (h.out hr)) q e
  · have e : q = rs.length := by omega
    subst e
    rw [List.getD_eq_getElem?_getD, List.getElem?_append_right (Nat.le_refl _), Nat.sub_self]
    exact upd_same
end Pc
namespace L2
open PySem PySem.Spec PyProof.Rows
section
variable {X : Cx}
theorem call_isinstT : CallR X (.builtin "isinstance") (fun xs H Q => ∃ x p n m t b, xs = [x, .ref p] ∧ H p = some (.tup [.ty n, .ty m]) ∧ TyOf X.K H x t ∧ PySem.W.kitAny X.K t [.type n, .type m] = some b ∧ Q (.bl b) H) := by
  intro pins s σ H xs us Q I r h
  obtain ⟨x, p, n, m, t, b, rfl, hp, ty, e, q⟩ := h
  obtain ⟨u, u2, rfl, rx, r2⟩ := vals2 r
  cases (show u2 = Value.ref p from r2)
  obtain ⟨_, its, ri, o, h1, h2, k, h3, h4⟩ := (show ObjOk X.prog X.w H s.heap p (.tup [.ty n, .ty m]) from I.hok p _ hp)
  obtain ⟨i1, i2, rfl, q1, q2⟩ := vals2 ri
  cases (show i1 = Value.type n from q1)
  cases (show i2 = Value.type m from q2)
  obtain ⟨cls, dd, data, sl⟩ := o
  cases (show cls = .type "tuple" from h2)
  cases (show data = .seq [Value.type n, Value.type m].toArray k from h3)
  have fin : ∀ tk : Nat, ∃ y H', Inv X pins σ H' { s with toks := tk } ∧ RelV y (Value.bool b) ∧ Q y H' := fun tk => ⟨.bl b, H, I.tok tk, rfl, q⟩
  cases ty with
  | non => cases (show u = Value.none from rx); exact PySem.W.kia_tup PySem.W.kitx_none I.kIn True.intro h1 e (fun z => nomatch z) fin
  | bl y => cases (show u = Value.bool y from rx); exact PySem.W.kia_tup PySem.W.kitx_bool I.kIn True.intro h1 e (fun z => nomatch z) fin
  | int i => obtain ⟨t, z⟩ := (show ∃ t, u = Value.int i t from rx); cases z; exact PySem.W.kia_tup PySem.W.kitx_int I.kIn True.intro h1 e (fun z => nomatch z) fin
  | str y => obtain ⟨t, z⟩ := (show ∃ t, u = Value.str y t from rx); cases z; exact PySem.W.kia_tup PySem.W.kitx_str I.kIn True.intro h1 e (fun z => nomatch z) fin
  | flt y => obtain ⟨t, z⟩ := (show ∃ t, u = Value.float y t from rx); cases z; exact PySem.W.kia_tup PySem.W.kitx_float I.kIn True.intro h1 e (fun z => nomatch z) fin
  | @lst a xs ea =>
    cases (show u = Value.ref a from rx)
    obtain ⟨_, _, n', _, g1⟩ := (show ObjOk X.prog X.w H s.heap a (.lst xs) from I.hok a _ ea)
    exact PySem.W.kia_tup PySem.W.kitx_list I.kIn ⟨_, g1, rfl⟩ h1 e (fun z => nomatch z) fin
  | @frz a ob xs ea =>
    cases (show u = Value.ref a from rx)
    obtain ⟨_, _, _, n', _, g1⟩ := (show ObjOk X.prog X.w H s.heap a (.frz ob (.lst xs)) from I.hok a _ ea)
    exact PySem.W.kia_tup PySem.W.kitx_list I.kIn ⟨_, g1, rfl⟩ h1 e (fun z => nomatch z) fin
  | @tup a xs ea =>
    cases (show u = Value.ref a from rx)
    obtain ⟨_, _, _, pp⟩ := (show ObjOk X.prog X.w H s.heap a (.tup xs) from I.hok a _ ea)
    obtain ⟨o', g1, g2, _⟩ := pp
    exact PySem.W.kia_tup PySem.W.kitx_tuple I.kIn ⟨o', g1, g2⟩ h1 e (fun z => nomatch z) fin
  | @dK a kvs ea =>
    cases (show u = Value.ref a from rx)
    obtain ⟨_, _, vs, _, pp⟩ := (show ObjOk X.prog X.w H s.heap a (.dK kvs) from I.hok a _ ea)
    obtain ⟨o', es, ep, g1, g2, _⟩ := pp
    exact PySem.W.kia_tup PySem.W.kitx_dict I.kIn ⟨o', g1, g2.1⟩ h1 e (fun z => nomatch z) fin
  | @dT a kvs ea => 
    cases (show u = Value.ref a from rx)
    obtain ⟨_, _, vs, _, pp⟩ := (show ObjOk X.prog X.w H s.heap a (.dT kvs) from I.hok a _ ea)
    obtain ⟨o', es, ep, g1, g2, _⟩ := pp
    exact PySem.W.kia_tup PySem.W.kitx_dict I.kIn ⟨o', g1, g2.1⟩ h1 e (fun z => nomatch z) fin
  | @ins a C' dx fs ea cl ha hn htk hm =>
    cases (show u = Value.ref a from rx)
    obtain ⟨mA, O, _⟩ := ins_get I.hok ea
    obtain ⟨od, J, _⟩ := O.look
    exact PySem.W.kia_tup (PySem.W.kitx_own (cl.get _) cl.hd ha hn htk hm) I.kIn J h1 e (fun z => nomatch z) fin
end
end L2
namespace Pc
open PySem PySem.Spec L2 PyProof.Rows
def anyW : V := .str (Str.ofString "any")
def varW : V := .str (Str.ofString "var")
def lN : Str := Str.ofString "n"
def lV : Str := Str.ofString "v"
def lH : Str := Str.ofString "h"
def lO : Str := Str.ofString ""
def letW (kinds : List Str) (v : V) : Str := if v = anyW then lN else if v = varW then lV else if inV v (kinds.map V.str) = true then lH else lO
def isStr : V → Bool
  | .str _ => true
  | _ => false
def lies (l : Str) (v x : V) : Bool := if l = lH then true else if l = lN then !isStr x else if l = lV then isStr x && decide (arV x = 0) else decide (v = x)
def spLeaf (K : PySem.W.Frag) : Sp := fun vs H Q _ => ∃ (v : V) (kt : Addr) (kinds : List Str), vs = [v, .ref kt] ∧ isW v ∧ SqT K H kt (kinds.map V.str) ∧ Q (.str (letW kinds v)) H
def spLies : Sp := fun vs H Q _ => ∃ (l : Str) (v x : V), vs = [.str l, v, x] ∧ isW v ∧ isW x ∧ Q (.bl (lies l v x)) H
theorem isW.sc {v : V} (h : isW v) (z : Str) : scal v (.str z) = true := by
  obtain ⟨k, rfl⟩ := h
  cases k <;> rfl
theorem isW.sc2 {v x : V} (h : isW v) (g : isW x) : scal v x = true := by
  obtain ⟨k, rfl⟩ := h
  obtain ⟨m, rfl⟩ := g
  cases k <;> cases m <;> rfl
theorem isW.flat {v : V} (h : isW v) : flatV v = true := by
  obtain ⟨k, rfl⟩ := h
  exact kV_flat k
structure Und where
  hs : List Nat
  ns : List V
  vs : List V
def Und.put (u : Und) (l : Str) (p : Nat) (x : V) : Und := if l = lH then ⟨u.hs ++ [p], u.ns, u.vs⟩ else if l = lN then ⟨u.hs, u.ns ++ [x], u.vs⟩ else if l = lV then ⟨u.hs, u.ns, u.vs ++ [x]⟩ else u
def endAt (ws : List V) (p : Nat) : Nat := p + (eat 1 ((ws.drop p).map arV)).getD 0
def laidF (kinds : List Str) (ws : List V) : List V → Nat → Und → Option Und
  | [], _, u => some u
  | v :: r, p, u => if lies (letW kinds v) v (ws.getD p .non) = true then laidF kinds ws r (if letW kinds v = lH then endAt ws p else p + 1) (u.put (letW kinds v) p (ws.getD p .non)) else none
def UndAt (H : Hp) (t : Addr) (u : Und) : Prop := ∃ t1 t2 t3 : Addr, H t = some (.tup [.ref t1, .ref t2, .ref t3]) ∧ H t1 = some (.tup (u.hs.map plV)) ∧ H t2 = some (.tup u.ns) ∧ H t3 = some (.tup u.vs)
structure UndOk (u : Und) : Prop where
  n : (∀ v ∈ u.ns, isW v) ∧ u.ns.length ≤ 1000
  v : (∀ v ∈ u.vs, isW v) ∧ u.vs.length ≤ 1000
  h : u.hs.length ≤ 1000
theorem UndAt.same {H H' : Hp} {t : Addr} {u : Und} (h : UndAt H t u) (s : Same H H') : UndAt H' t u := by
  obtain ⟨t1, t2, t3, h1, h2, h3, h4⟩ := h
  exact ⟨t1, t2, t3, s _ _ h1, s _ _ h2, s _ _ h3, s _ _ h4⟩
def UndW (u : Und) : Prop := (∀ v ∈ u.ns, isW v) ∧ ∀ v ∈ u.vs, isW v
theorem UndW.put {u : Und} (h : UndW u) {x : V} (hx : isW x) (l : Str) (p : Nat) : UndW (u.put l p x) := by
  unfold Und.put
  have ap : ∀ {L : List V}, (∀ v ∈ L, isW v) → ∀ v ∈ L ++ [x], isW v := fun {L} hL v hv => by
    rcases List.mem_append.mp hv with g | g
    · exact hL v g
    · rw [List.mem_singleton.mp g]; exact hx
  by_cases c1 : l = lH
  · rw [if_pos c1]; exact h
  rw [if_neg c1]
  by_cases c2 : l = lN
  · rw [if_pos c2]; exact ⟨ap h.1, h.2⟩
  rw [if_neg c2]
  by_cases c3 : l = lV
  · rw [if_pos c3]; exact ⟨h.1, ap h.2⟩
  rw [if_neg c3]
  exact h
def Kinds (kinds : List Str) : Prop := ∀ z ∈ kinds, arS z = 0 ∧ V.str z ≠ anyW ∧ V.str z ≠ varW
def told (r : Option Und) (H' : Hp) (Q : VK) : Prop := match r with
  | none => Q .non H'
  | some u => ∀ (t : Addr) (H2 : Hp), Same H' H2 → UndAt H2 t u → UndOk u → Q (.ref t) H2
theorem told_none {H' : Hp} {Q : VK} (h : Q .non H') : told none H' Q := h
def spLaid (K : PySem.W.Frag) : Sp := fun vs H Q _ => ∃ (st kt wt : Addr) (sh : List V) (kinds : List Str) (ws : List V) (p n : Nat), vs = [.ref st, .ref kt, .ref wt, .int (p : Int)] ∧ SqT K H st sh ∧ SqT K H kt (kinds.map V.str) ∧ SqT K H wt ws ∧ Kinds kinds ∧ (∀ v ∈ sh, isW v) ∧ (∀ v ∈ ws, isW v) ∧ isTerm sh ∧ eat 1 ((ws.drop p).map arV) = some n ∧ sh.length ≤ 1000 ∧ ws.length ≤ 1000 ∧ ∀ H', Same H H' → told (laidF kinds ws sh p ⟨[], [], []⟩) H' Q
theorem letW_cases {kinds : List Str} {v : V} (hv : isW v) : (v = anyW ∧ letW kinds v = lN) ∨ (v = varW ∧ letW kinds v = lV) ∨ ((∃ z ∈ kinds, v = .str z) ∧ letW kinds v = lH) ∨ (letW kinds v = lO ∧ inV v (kinds.map V.str) = false) := by
  unfold letW
  by_cases h1 : v = anyW
  · exact .inl ⟨h1, if_pos h1⟩
  by_cases h2 : v = varW
  · exact .inr (.inl ⟨h2, by rw [if_neg h1, if_pos h2]⟩)
  cases h3 : inV v (kinds.map V.str) with
  | true =>
    refine .inr (.inr (.inl ⟨?_, by rw [if_neg h1, if_neg h2, if_pos rfl]⟩))
    obtain ⟨k, rfl⟩ := hv
    cases k with
    | inl i =>
      exfalso
      clear h1 h2
      induction kinds with
      | nil => cases h3
      | cons z r ih => exact ih h3
    | inr z =>
      obtain ⟨y, hy, e⟩ := List.mem_map.mp (inV_str h3)
      exact ⟨y, hy, e.symm⟩
  | false => exact .inr (.inr (.inr ⟨by rw [if_neg h1, if_neg h2, if_neg (by decide)], rfl⟩))
theorem any_ar : arV anyW = 0 := by decide +kernel
theorem var_ar : arV varW = 0 := by decide +kernel
theorem lets : lN ≠ lH ∧ lV ≠ lH ∧ lO ≠ lH ∧ lV ≠ lN ∧ lO ≠ lN ∧ lO ≠ lV := by decide +kernel
theorem laid_step {kinds : List Str} {ws r : List V} {v x : V} {q d m : Nat} (hk : Kinds kinds) (hv : isW v) (hx : ws[q]? = some x) (hxw : isW x) (hp : pend (d + 1) (arV v :: r.map arV) = some 0) (he : eat (d + 1) ((ws.drop q).map arV) = some m)
    (hl : lies (letW kinds v) v x = true) : ∃ d' m', pend d' (r.map arV) = some 0 ∧ eat d' ((ws.drop (if letW kinds v = lH then endAt ws q else q + 1)).map arV) = some m' := by
  have hq : q < ws.length := (List.getElem?_eq_some_iff.mp hx).1
  have ed : ws.drop q = x :: ws.drop (q + 1) := by
    rw [List.drop_eq_getElem_cons hq]
    congr 1
    rw [List.getElem?_eq_getElem hq] at hx
    exact Option.some.inj hx
  obtain ⟨e1, e2, e3, e4, e5, e6⟩ := lets
  have hp : pend (d + arV v) (r.map arV) = some 0 := hp
  have one : arV v = arV x → letW kinds v ≠ lH → ∃ d' m', pend d' (r.map arV) = some 0 ∧ eat d' ((ws.drop (if letW kinds v = lH then endAt ws q else q + 1)).map arV) = some m' := fun h n => by
    rw [if_neg n]
    rw [ed, List.map_cons, eat_cons] at he
    obtain ⟨k, hk', _⟩ := Option.map_eq_some_iff.mp he
    exact ⟨d + arV v, k, hp, by rw [h]; exact hk'⟩
  unfold lies at hl
  rcases letW_cases (kinds := kinds) hv with ⟨rfl, h⟩ | ⟨rfl, h⟩ | ⟨⟨z, hz, rfl⟩, h⟩ | ⟨h, _⟩
  · refine one ?_ (by rw [h]; exact e1)
    rw [h, if_neg e1, if_pos rfl] at hl
    rw [any_ar]
    obtain ⟨k, rfl⟩ := hxw
    cases k with
    | inl i => rfl
    | inr y => cases hl
  · refine one ?_ (by rw [h]; exact e2)
    rw [h, if_neg e2, if_neg e4, if_pos rfl, Bool.and_eq_true] at hl
    rw [var_ar]
    exact (of_decide_eq_true hl.2).symm
  · rw [if_pos h]
    have a0 : arV (.str z) = 0 := (hk z hz).1
    rw [a0] at hp
    rw [show d + 1 = 1 + d by omega, eat_add] at he
    cases h1 : eat 1 ((ws.drop q).map arV) with
    | none => rw [h1] at he; cases he
    | some n =>
      rw [h1] at he
      obtain ⟨k, hk', _⟩ := Option.map_eq_some_iff.mp (show (eat d (((ws.drop q).map arV).drop n)).map (n + ·) = some m from he)
      refine ⟨d, k, hp, ?_⟩
      unfold endAt
      rw [h1, show (some n).getD 0 = n from rfl, ← List.drop_drop]
      rw [← List.map_drop] at hk'
      exact hk'
  · refine one ?_ (by rw [h]; exact e3)
    rw [h, if_neg e3, if_neg e5, if_neg e6] at hl
    rw [of_decide_eq_true hl]
theorem laidF_cons {kinds : List Str} {ws : List V} {v : V} {r : List V} {p : Nat} {u : Und} : laidF kinds ws (v :: r) p u = if lies (letW kinds v) v (ws.getD p .non) = true then laidF kinds ws r (if letW kinds v = lH then endAt ws p else p + 1) (u.put (letW kinds v) p (ws.getD p .non)) else none := rfl
def UAt (H : Hp) (u0 l1 l2 l3 : Addr) (u : Und) : Prop := H u0 = some (.dK [(Sum.inr lH, .ref l1), (Sum.inr lN, .ref l2), (Sum.inr lV, .ref l3)]) ∧ H l1 = some (.lst (u.hs.map plV)) ∧ H l2 = some (.lst u.ns) ∧ H l3 = some (.lst u.vs)
theorem UAt.same {H H' : Hp} {u0 l1 l2 l3 : Addr} {u : Und} (h : UAt H u0 l1 l2 l3 u) (s : Same H H') : UAt H' u0 l1 l2 l3 u := ⟨s _ _ h.1, s _ _ h.2.1, s _ _ h.2.2.1, s _ _ h.2.2.2⟩
theorem Und.put_len (u : Und) (l : Str) (p : Nat) (x : V) {i : Nat} (h : u.hs.length ≤ i ∧ u.ns.length ≤ i ∧ u.vs.length ≤ i) : (u.put l p x).hs.length ≤ i + 1 ∧ (u.put l p x).ns.length ≤ i + 1 ∧ (u.put l p x).vs.length ≤ i + 1 := by
  obtain ⟨h1, h2, h3⟩ := h
  unfold Und.put
  by_cases c1 : l = lH
  · rw [if_pos c1]
    refine ⟨?_, by show u.ns.length ≤ _; omega, by show u.vs.length ≤ _; omega⟩
    show (u.hs ++ [p]).length ≤ _
    rw [List.length_append, List.length_singleton]
    omega
  rw [if_neg c1]
  by_cases c2 : l = lN
  · rw [if_pos c2]
    refine ⟨by show u.hs.length ≤ _; omega, ?_, by show u.vs.length ≤ _; omega⟩
    show (u.ns ++ [x]).length ≤ _
    rw [List.length_append, List.length_singleton]
    omega
  rw [if_neg c2]
  by_cases c3 : l = lV
  · rw [if_pos c3]
    refine ⟨by show u.hs.length ≤ _; omega, by show u.ns.length ≤ _; omega, ?_⟩
    show (u.vs ++ [x]).length ≤ _
    rw [List.length_append, List.length_singleton]
    omega
  rw [if_neg c3]
  exact ⟨by omega, by omega, by omega⟩
theorem UAt.get1 {H : Hp} {u0 l1 l2 l3 : Addr} {u : Und} (h : UAt H u0 l1 l2 l3 u) : DGet H u0 (.str lH) (some (.ref l1)) := .inl ⟨_, .inr lH, .inl h.1, rfl, rfl⟩
theorem UAt.get2 {H : Hp} {u0 l1 l2 l3 : Addr} {u : Und} (h : UAt H u0 l1 l2 l3 u) : DGet H u0 (.str lN) (some (.ref l2)) := .inl ⟨_, .inr lN, .inl h.1, rfl, rfl⟩
theorem UAt.get3 {H : Hp} {u0 l1 l2 l3 : Addr} {u : Und} (h : UAt H u0 l1 l2 l3 u) : DGet H u0 (.str lV) (some (.ref l3)) := .inl ⟨_, .inr lV, .inl h.1, rfl, rfl⟩
theorem UAt.put1 {H : Hp} {u0 l1 l2 l3 : Addr} {u : Und} (h : UAt H u0 l1 l2 l3 u) (n10 : l1 ≠ u0) (n21 : l2 ≠ l1) (n31 : l3 ≠ l1) (p : Nat) (x : V) : UAt (upd H l1 (.lst (u.hs.map plV ++ [plV p]))) u0 l1 l2 l3 (u.put lH p x) := by
  unfold Und.put
  rw [if_pos rfl]
  refine ⟨by rw [upd_ne n10.symm]; exact h.1, ?_, by rw [upd_ne n21]; exact h.2.2.1, by rw [upd_ne n31]; exact h.2.2.2⟩
  rw [upd_same, List.map_append]
  rfl
theorem UAt.put2 {H : Hp} {u0 l1 l2 l3 : Addr} {u : Und} (h : UAt H u0 l1 l2 l3 u) (n20 : l2 ≠ u0) (n21 : l2 ≠ l1) (n32 : l3 ≠ l2) (p : Nat) (x : V) : UAt (upd H l2 (.lst (u.ns ++ [x]))) u0 l1 l2 l3 (u.put lN p x) := by
  unfold Und.put
  rw [if_neg lets.1, if_pos rfl]
  exact ⟨by rw [upd_ne n20.symm]; exact h.1, by rw [upd_ne n21.symm]; exact h.2.1, upd_same, by rw [upd_ne n32]; exact h.2.2.2⟩
theorem UAt.put3 {H : Hp} {u0 l1 l2 l3 : Addr} {u : Und} (h : UAt H u0 l1 l2 l3 u) (n30 : l3 ≠ u0) (n31 : l3 ≠ l1) (n32 : l3 ≠ l2) (p : Nat) (x : V) : UAt (upd H l3 (.lst (u.vs ++ [x]))) u0 l1 l2 l3 (u.put lV p x) := by
  unfold Und.put
  rw [if_neg lets.2.1, if_neg lets.2.2.2.1, if_pos rfl]
  exact ⟨by rw [upd_ne n30.symm]; exact h.1, by rw [upd_ne n31.symm]; exact h.2.1, by rw [upd_ne n32.symm]; exact h.2.2.1, upd_same⟩
theorem Und.put0 (u : Und) (p : Nat) (x : V) : u.put lO p x = u := by
  unfold Und.put
  rw [if_neg lets.2.2.1, if_neg lets.2.2.2.2.1, if_neg lets.2.2.2.2.2]
theorem eat_one {r : List Nat} {d m : Nat} (h : eat (d + 1) r = some m) : ∃ n, eat 1 r = some n := by
  rw [show d + 1 = 1 + d by omega, eat_add] at h
  cases h1 : eat 1 r with
  | none => rw [h1] at h; cases h
  | some n => exact ⟨n, rfl⟩
structure Rl where
  name : Str
  kind : Str
  price : Int
  shape : List V
def RuleAt (H : Hp) (a : Addr) (r : Rl) : Prop := ∃ (sa da : Addr) (ds : List V), H a = some (.tup [.str r.name, .str r.kind, .int r.price, .ref sa, .ref da]) ∧ H sa = some (.tup r.shape) ∧ H da = some (.tup ds)
theorem RuleAt.same {H H' : Hp} {a : Addr} {r : Rl} (h : RuleAt H a r) (s : Same H H') : RuleAt H' a r := by
  obtain ⟨sa, da, ds, h1, h2, h3⟩ := h
  exact ⟨sa, da, ds, s _ _ h1, s _ _ h2, s _ _ h3⟩
def RulesAt (H : Hp) (ra : List Addr) (rs : List Rl) : Prop := ra.length = rs.length ∧ ∀ (i : Nat) (r : Rl), rs[i]? = some r → ∃ a, ra[i]? = some a ∧ RuleAt H a r
theorem RulesAt.same {H H' : Hp} {ra : List Addr} {rs : List Rl} (h : RulesAt H ra rs) (s : Same H H') : RulesAt H' ra rs := ⟨h.1, fun i r hr => by
  obtain ⟨a, h1, h2⟩ := h.2 i r hr
  exact ⟨a, h1, h2.same s⟩⟩
def BookAt (H : Hp) (b : Addr) (kinds : List Str) (rs : List Rl) : Prop := ∃ (kt rt : Addr) (ra : List Addr), H b = some (.tup [.ref kt, .ref rt]) ∧ H kt = some (.tup (kinds.map V.str)) ∧ H rt = some (.tup (ra.map V.ref)) ∧ RulesAt H ra rs
theorem BookAt.same {H H' : Hp} {b : Addr} {kinds : List Str} {rs : List Rl} (h : BookAt H b kinds rs) (s : Same H H') : BookAt H' b kinds rs := by
  obtain ⟨kt, rt, ra, h1, h2, h3, h4⟩ := h
  exact ⟨kt, rt, ra, s _ _ h1, s _ _ h2, s _ _ h3, h4.same s⟩
structure Bk (kinds : List Str) (rs : List Rl) : Prop where
  kd : Kinds kinds
  nd : (rs.map (·.name)).Nodup
  sh : ∀ r ∈ rs, (∀ v ∈ r.shape, isW v) ∧ isTerm r.shape ∧ r.shape.length ≤ 100
  len : rs.length ≤ 100
structure Tw (ws : List V) : Prop where
  w : ∀ v ∈ ws, isW v ∧ v ≠ anyW ∧ v ≠ varW
  one : isTerm ws
  len : ws.length ≤ 1000
theorem Tw.eat {ws : List V} (h : Tw ws) {p : Nat} (hp : p < ws.length) : ∃ n, eat 1 ((ws.drop p).map arV) = some n := by
  obtain ⟨m, hm⟩ := pend_drop _ 1 h.one p
  rw [← List.map_drop] at hm
  have hpos := pend_pos hm (by intro e; have := congrArg List.length e; rw [List.length_map, List.length_drop] at this; simp at this; omega)
  obtain ⟨d, rfl⟩ : ∃ d, m = d + 1 := ⟨m - 1, by omega⟩
  exact eat_one (eat_of_pend _ _ hm)
def spFit : Sp := fun vs H Q _ => ∃ (b wt : Addr) (kinds : List Str) (rs : List Rl) (ws : List V) (p i : Nat) (r : Rl), vs = [.ref b, .str r.name, .ref wt, .int (p : Int)] ∧ BookAt H b kinds rs ∧ H wt = some (.tup ws) ∧ Bk kinds rs ∧ Tw ws ∧ p < ws.length ∧ rs[i]? = some r ∧ ∀ H', Same H H' → told (laidF kinds ws r.shape p ⟨[], [], []⟩) H' Q
theorem Bk.name {kinds : List Str} {rs : List Rl} (h : Bk kinds rs) {i j : Nat} {r r' : Rl} (hi : rs[i]? = some r) (hj : rs[j]? = some r') (e : r'.name = r.name) : i = j := by
  have h1 : (rs.map (·.name))[i]? = some r.name := by rw [List.getElem?_map, hi]; rfl
  have h2 : (rs.map (·.name))[j]? = some r.name := by rw [List.getElem?_map, hj, ← e]; rfl
  obtain ⟨a1, b1⟩ := List.getElem?_eq_some_iff.mp h1
  obtain ⟨a2, b2⟩ := List.getElem?_eq_some_iff.mp h2
  exact (List.getElem_inj h.nd).mp (b1.trans b2.symm)
def spEnds (K : PySem.W.Frag) : Sp := fun vs H Q _ => ∃ (t : Addr) (ws : List V), vs = [.ref t] ∧ SqT K H t ws ∧ (∀ v ∈ ws, isW v) ∧ isTerm ws ∧ ws.length ≤ 1000 ∧ ∀ (l : Addr) (H' : Hp), Same H H' → H l = none → H' l = some (.lst ((List.range ws.length).map fun q => plV (endAt ws q))) → Q (.ref l) H'
def spLLaid (K : PySem.W.Frag) : Sp := fun vs H Q _ => ∃ (st kt wt et : Addr) (sh : List V) (kinds : List Str) (ws : List V) (p : Nat), vs = [.ref kt, .ref st, .ref wt, .ref et, .int (p : Int)] ∧ SqT K H st sh ∧ SqT K H kt (kinds.map V.str) ∧ SqT K H wt ws ∧ H et = some (.lst ((List.range ws.length).map fun q => plV (endAt ws q))) ∧ Kinds kinds ∧ (∀ v ∈ sh, isW v) ∧ isTerm sh ∧ sh.length ≤ 1000 ∧ Tw ws ∧ p < ws.length ∧ ∀ H', Same H H' → told (laidF kinds ws sh p ⟨[], [], []⟩) H' Q
def tops (ws : List V) (p : Nat) : List Nat := starts p ((ws.map arV).drop p) ++ [ws.length]
theorem tops_end (ws : List V) : tops ws ws.length = [ws.length] := by
  unfold tops
  rw [List.drop_of_length_le (by rw [List.length_map]; exact Nat.le_refl _)]
  rfl
theorem tops_at {ws : List V} (h : isTerm ws) {p : Nat} {x : V} (hx : ws[p]? = some x) : tops ws p = p :: (tops ws (p + 1)).drop (arV x) ∧ ∃ t, (tops ws (p + 1)).drop (arV x) = endAt ws p :: t := by
  have hp : p < ws.length := (List.getElem?_eq_some_iff.mp hx).1
  obtain ⟨m, hm⟩ := below_pend h hx
  have Sl := starts_len _ _ (p + 1) hm
  rw [List.map_drop] at Sl hm
  have ea : (ws.map arV).getD p 0 = arV x := by rw [List.getD_eq_getElem?_getD, List.getElem?_map, hx]; rfl
  have hst := starts_at (ws.map arV) p (by rw [List.length_map]; exact hp)
  rw [ea] at hst
  obtain ⟨n, hn, _⟩ := pend_split _ (arV x) m (by rw [Nat.add_comm]; exact hm)
  have hd := starts_drop _ _ _ (p + 1) hn
  have hle := eat_le _ _ _ hn
  have ed : (ws.drop p).map arV = arV x :: (ws.map arV).drop (p + 1) := by
    rw [List.drop_eq_getElem_cons hp, List.map_cons, List.map_drop]
    rw [List.getElem?_eq_getElem hp] at hx
    rw [Option.some.inj hx]
  have en : endAt ws p = p + 1 + n := by
    unfold endAt
    rw [ed, eat_cons, Nat.zero_add, hn]
    show p + (n + 1) = _
    omega
  unfold tops
  rw [hst, List.drop_append_of_le_length (by omega), hd]
  refine ⟨rfl, ?_⟩
  rw [List.drop_drop]
  rw [List.length_drop, List.length_map] at hle
  by_cases c : p + 1 + n < ws.length
  · obtain ⟨t, ht⟩ := starts_head ((ws.map arV).drop (p + 1 + n)) (p + 1 + n) (by intro e; have := congrArg List.length e; rw [List.length_drop, List.length_map] at this; simp at this; omega)
    exact ⟨t ++ [ws.length], by rw [ht, en]; rfl⟩
  · refine ⟨[], ?_⟩
    rw [List.drop_of_length_le (by rw [List.length_map]; omega), en, show p + 1 + n = ws.length by omega]
    rfl
theorem four_in {x : V} (hx : isW x) : (inV x [V.str "add", V.str "sub", V.str "mul", V.str "neg"] = true) ↔ 0 < arV x := by
  obtain ⟨k, rfl⟩ := hx
  cases k with
  | inl i =>
    constructor
    · intro h
      exact absurd h (by simp [inV, eqV, kV])
    · intro h
      exact absurd h (by show ¬ (0 < 0); decide)
  | inr z =>
    show (inV (.str z) _ = true) ↔ 0 < arS z
    constructor
    · intro h
      have := inV_str h
      simp only [List.mem_cons, List.not_mem_nil, or_false, V.str.injEq] at this
      rcases this with rfl | rfl | rfl | rfl <;> decide +kernel
    · intro h
      rcases arS_cases (z := z) h with rfl | rfl | rfl | rfl <;> decide +kernel
theorem tops_head (ws : List V) {p : Nat} (hp : p ≤ ws.length) : ∃ t, tops ws p = p :: t := by
  unfold tops
  by_cases c : p < ws.length
  · obtain ⟨t, ht⟩ := starts_head ((ws.map arV).drop p) p (by intro e; have := congrArg List.length e; rw [List.length_drop, List.length_map] at this; simp at this; omega)
    exact ⟨t ++ [ws.length], by rw [ht]; rfl⟩
  · refine ⟨[], ?_⟩
    rw [List.drop_of_length_le (by rw [List.length_map]; omega), show p = ws.length by omega]
    rfl
theorem ixN_nat {n p : Nat} (h : p < n) : ixN n (p : Int) = some p := by
  unfold ixN
  rw [if_pos (by omega), if_pos (by omega), Int.toNat_natCast]
theorem set_zero {p : Nat} {x : V} {L : List V} : (List.replicate (p + 1) (V.int 0) ++ L).set p x = List.replicate p (V.int 0) ++ x :: L := by
  rw [List.replicate_succ', List.append_assoc, List.set_append_right _ _ (by rw [List.length_replicate]; exact Nat.le_refl _), List.length_replicate, Nat.sub_self]
  rfl
theorem starts_le : ∀ (r : List Nat) (p : Nat), (starts p r).length ≤ r.length
  | [], _ => Nat.le_refl _
  | a :: r, p => by
    show (p :: (starts (p + 1) r).drop a).length ≤ _
    have := starts_le r (p + 1)
    rw [List.length_cons, List.length_drop, List.length_cons]
    omega
theorem tops_len (ws : List V) (p : Nat) : (tops ws p).length ≤ ws.length + 1 := by
  unfold tops
  have := starts_le ((ws.map arV).drop p) p
  rw [List.length_drop, List.length_map] at this
  rw [List.length_append, List.length_singleton]
  omega
def ULAt (H : Hp) (u0 l1 l2 l3 : Addr) (u : Und) : Prop := H u0 = some (.lst [.ref l1, .ref l2, .ref l3]) ∧ H l1 = some (.lst (u.hs.map plV)) ∧ H l2 = some (.lst u.ns) ∧ H l3 = some (.lst u.vs)
theorem ULAt.same {H H' : Hp} {u0 l1 l2 l3 : Addr} {u : Und} (h : ULAt H u0 l1 l2 l3 u) (s : Same H H') : ULAt H' u0 l1 l2 l3 u := ⟨s _ _ h.1, s _ _ h.2.1, s _ _ h.2.2.1, s _ _ h.2.2.2⟩
theorem ULAt.put1 {H : Hp} {u0 l1 l2 l3 : Addr} {u : Und} (h : ULAt H u0 l1 l2 l3 u) (n10 : u0 ≠ l1) (n21 : l2 ≠ l1) (n31 : l3 ≠ l1) (p : Nat) (x : V) : ULAt (upd H l1 (.lst (u.hs.map plV ++ [plV p]))) u0 l1 l2 l3 (u.put lH p x) := by
  unfold Und.put
  rw [if_pos rfl]
  refine ⟨by rw [upd_ne n10]; exact h.1, ?_, by rw [upd_ne n21]; exact h.2.2.1, by rw [upd_ne n31]; exact h.2.2.2⟩
  rw [upd_same, List.map_append]
  rfl
theorem ULAt.put2 {H : Hp} {u0 l1 l2 l3 : Addr} {u : Und} (h : ULAt H u0 l1 l2 l3 u) (n20 : u0 ≠ l2) (n21 : l2 ≠ l1) (n32 : l3 ≠ l2) (p : Nat) (x : V) : ULAt (upd H l2 (.lst (u.ns ++ [x]))) u0 l1 l2 l3 (u.put lN p x) := by
  unfold Und.put
  rw [if_neg lets.1, if_pos rfl]
  exact ⟨by rw [upd_ne n20]; exact h.1, by rw [upd_ne n21.symm]; exact h.2.1, upd_same, by rw [upd_ne n32]; exact h.2.2.2⟩
theorem ULAt.put3 {H : Hp} {u0 l1 l2 l3 : Addr} {u : Und} (h : ULAt H u0 l1 l2 l3 u) (n30 : u0 ≠ l3) (n31 : l3 ≠ l1) (n32 : l3 ≠ l2) (p : Nat) (x : V) : ULAt (upd H l3 (.lst (u.vs ++ [x]))) u0 l1 l2 l3 (u.put lV p x) := by
  unfold Und.put
  rw [if_neg lets.2.1, if_neg lets.2.2.2.1, if_pos rfl]
  exact ⟨by rw [upd_ne n30]; exact h.1, by rw [upd_ne n31.symm]; exact h.2.1, by rw [upd_ne n32.symm]; exact h.2.2.1, upd_same⟩
theorem Kinds.out {kinds : List Str} (h : Kinds kinds) {z : Str} (hz : V.str z = anyW ∨ V.str z = varW) : inV (.str z) (kinds.map V.str) = false := by
  cases e : inV (.str z) (kinds.map V.str) with
  | false => rfl
  | true =>
    obtain ⟨y, hy, e2⟩ := List.mem_map.mp (inV_str e)
    obtain ⟨_, h1, h2⟩ := h y hy
    rcases hz with hz | hz
    · exact absurd (e2.trans hz) h1
    · exact absurd (e2.trans hz) h2
theorem letH {kinds : List Str} {v : V} (h : letW kinds v = lH) : inV v (kinds.map V.str) = true := by
  unfold letW at h
  obtain ⟨b1, b2, b3, _, _, _⟩ := lets
  by_cases h1 : v = anyW
  · rw [if_pos h1] at h; exact absurd h b1
  by_cases h2 : v = varW
  · rw [if_neg h1, if_pos h2] at h; exact absurd h b2
  rw [if_neg h1, if_neg h2] at h
  cases e : inV v (kinds.map V.str) with
  | true => rfl
  | false => rw [e, if_neg (by decide)] at h; exact absurd h b3
theorem letO {kinds : List Str} {v : V} (h : letW kinds v = lO) : v ≠ anyW ∧ v ≠ varW := by
  obtain ⟨_, _, _, _, b5, b6⟩ := lets
  unfold letW at h
  refine ⟨fun e => ?_, fun e => ?_⟩
  · rw [if_pos e] at h; exact b5 h.symm
  · subst e
    by_cases h1 : varW = anyW
    · rw [if_pos h1] at h; exact b5 h.symm
    · rw [if_neg h1, if_pos rfl] at h; exact b6 h.symm
def spNever : Sp := fun _ _ _ _ => False
def spSame0 : Sp := fun vs H Q _ => ∃ v : V, vs = [v, v] ∧ isW v ∧ ∀ H', Same H H' → Q (.bl true) H'
def spSame1 : Sp := fun vs H Q _ => ∃ (f d : Addr) (xs : List V), vs = [.ref f, .ref d] ∧ H f = some (.tup xs) ∧ H d = some (.tup xs) ∧ (∀ v ∈ xs, isW v) ∧ xs.length ≤ 1000 ∧ ∀ H', Same H H' → Q (.bl true) H'
def spSame2 : Sp := fun vs H Q _ => ∃ (f d : Addr) (u : Und), vs = [.ref f, .ref d] ∧ UndAt H f u ∧ UndAt H d u ∧ UndOk u ∧ ∀ H', Same H H' → Q (.bl true) H'
def spTold : Sp := fun vs H Q _ => ∃ (b wt et : Addr) (kinds : List Str) (rs : List Rl) (ws : List V) (p : Nat), vs = [.ref b, .ref wt, .int (p : Int), .ref et] ∧ BookAt H b kinds rs ∧ H wt = some (.tup ws) ∧ H et = some (.lst ((List.range ws.length).map fun q => plV (endAt ws q))) ∧ Bk kinds rs ∧ Tw ws ∧ p < ws.length ∧ ∀ H', Same H H' → Q (.bl true) H'
end Pc
namespace Pc
open PySem PySem.Spec L2 PyProof.Rows
def nmOk (z : Str) : Prop := arS z = 0 ∧ V.str z ≠ anyW ∧ V.str z ≠ varW
def NamesAt (H : Hp) (l : Addr) (zs : List Str) : Prop := H l = some (.lst (zs.map V.str)) ∧ zs.length = 60 ∧ zs.Nodup ∧ ∀ z ∈ zs, nmOk z
theorem NamesAt.same {H H' : Hp} {l : Addr} {zs : List Str} (h : NamesAt H l zs) (s : Same H H') : NamesAt H' l zs := ⟨s _ _ h.1, h.2⟩
theorem NamesAt.sameB {H H' : Hp} {d b l : Addr} {ns : List Int} {n : Nat} {zs : List Str} (h : NamesAt H l zs) (hD : Deck H d b ns n) (s : SameB d H H') : NamesAt H' l zs := by
  refine ⟨s _ _ (ne_of h.1 hD.1 ?_) h.1, h.2⟩
  intro e
  have := h.2.1
  cases zs with
  | nil => cases this
  | cons z r =>
    have e : HO.lst (V.str z :: r.map V.str) = HO.lst _ := e
    cases e
def twW (v : V) : Prop := isW v ∧ v ≠ anyW ∧ v ≠ varW
theorem twW_int (i : Int) : twW (.int i) := ⟨⟨Sum.inl i, rfl⟩, (fun e => nomatch e), fun e => nomatch e⟩
theorem twW_name {z : Str} (h : nmOk z) : twW (.str z) := ⟨⟨Sum.inr z, rfl⟩, h.2⟩
theorem twW_op {z : Str} (h : 0 < arS z) : twW (.str z) := ⟨⟨Sum.inr z, rfl⟩, fun e => by rw [V.str.inj (show V.str z = V.str (Str.ofString "any") from e)] at h; revert h; decide +kernel, fun e => by rw [V.str.inj (show V.str z = V.str (Str.ofString "var") from e)] at h; revert h; decide +kernel⟩
theorem inV_mem {z : Str} {xs : List V} (h : V.str z ∈ xs) : inV (.str z) xs = true := List.any_eq_true.mpr ⟨_, h, by simp [eqV]⟩
def spTermT : Sp := fun vs H Q _ => ∃ (d nl b : Addr) (ns : List Int) (zs : List Str) (m n : Nat), vs = [.ref d, .ref nl, .int (m : Int)] ∧ Deck H d b ns n ∧ NamesAt H nl zs ∧ 1 ≤ m ∧ m ≤ 60 ∧ n ≤ 50000 ∧ ∀ (t : Addr) (n' : Nat) (H' : Hp) (ws : List V), SameB d H H' → H' d = some (.lst [.ref b, .int (n' : Int)]) → n' ≤ n + m → H t = none → H' t = some (.tup ws) → Tw ws → ws.length ≤ m → Q (.ref t) H'
structure ShOk (kinds : List Str) (sh : List V) : Prop where
  w : ∀ v ∈ sh, isW v
  one : isTerm sh
  len : sh.length ≤ 11
  few : (sh.filter fun v => !inV v (kinds.map V.str)).length ≤ 5
def spShape : Sp := fun vs H Q _ => ∃ (d kt b : Addr) (ns : List Int) (kinds : List Str) (n : Nat), vs = [.ref d, .ref kt] ∧ Deck H d b ns n ∧ H kt = some (.tup (kinds.map V.str)) ∧ Kinds kinds ∧ 1 ≤ kinds.length ∧ kinds.length ≤ 20 ∧ n ≤ 50000 ∧ ∀ (t : Addr) (n' : Nat) (H' : Hp) (sh : List V), SameB d H H' → H' d = some (.lst [.ref b, .int (n' : Int)]) → n' ≤ n + 12 → H t = none → H' t = some (.tup sh) → ShOk kinds sh → Q (.ref t) H'
def Part (kinds : List Str) (v : V) (ps : List V) : Prop :=
  (letW kinds v = lH ∧ (∀ x ∈ ps, twW x) ∧ isTerm ps) ∨ (letW kinds v = lN ∧ ∃ i : Int, ps = [.int i]) ∨ (letW kinds v = lV ∧ ∃ z, nmOk z ∧ ps = [.str z]) ∨ (letW kinds v = lO ∧ ps = [v])
inductive Fill (kinds : List Str) : List V → List V → Prop
  | nil : Fill kinds [] []
  | cons {v : V} {ps sh ws : List V} (h : Part kinds v ps) (r : Fill kinds sh ws) : Fill kinds (v :: sh) (ps ++ ws)
theorem Fill.snoc {kinds : List Str} {v : V} {ps : List V} (h : Part kinds v ps) : ∀ {sh ws : List V}, Fill kinds sh ws → Fill kinds (sh ++ [v]) (ws ++ ps)
  | _, _, .nil => by
    have := Fill.cons h .nil
    rwa [List.append_nil] at this
  | _, _, .cons (ps := qs) g r => by
    rw [List.append_assoc]
    exact .cons g (r.snoc h)
theorem Part.ar {kinds : List Str} {v : V} {ps : List V} (hk : Kinds kinds) (hv : isW v) (h : Part kinds v ps) : (letW kinds v = lH ∧ arV v = 0 ∧ isTerm ps) ∨ (letW kinds v ≠ lH ∧ ∃ x, ps = [x] ∧ arV x = arV v ∧ lies (letW kinds v) v x = true) := by
  obtain ⟨b1, b2, b3, b4, b5, b6⟩ := lets
  rcases h with ⟨h, _, h2⟩ | ⟨h, i, rfl⟩ | ⟨h, z, hz, rfl⟩ | ⟨h, rfl⟩
  · refine .inl ⟨h, ?_, h2⟩
    rcases letW_cases (kinds := kinds) hv with ⟨_, g⟩ | ⟨_, g⟩ | ⟨⟨z, hz, rfl⟩, _⟩ | ⟨g, _⟩
    · exact absurd (g.symm.trans h) b1
    · exact absurd (g.symm.trans h) b2
    · exact (hk z hz).1
    · exact absurd (g.symm.trans h) b3
  · refine .inr ⟨by rw [h]; exact b1, _, rfl, ?_, by unfold lies; rw [h, if_neg b1, if_pos rfl]; rfl⟩
    rcases letW_cases (kinds := kinds) hv with ⟨rfl, _⟩ | ⟨_, g⟩ | ⟨_, g⟩ | ⟨g, _⟩
    · exact any_ar.symm
    · exact absurd (g.symm.trans h) b4
    · exact absurd (h.symm.trans g) b1
    · exact absurd (g.symm.trans h) b5
  · refine .inr ⟨by rw [h]; exact b2, _, rfl, ?_, ?_⟩
    · rcases letW_cases (kinds := kinds) hv with ⟨_, g⟩ | ⟨rfl, _⟩ | ⟨_, g⟩ | ⟨g, _⟩
      · exact absurd (h.symm.trans g) b4
      · rw [var_ar]; exact hz.1
      · exact absurd (h.symm.trans g) b2
      · exact absurd (g.symm.trans h) b6
    · unfold lies
      rw [h, if_neg b2, if_neg b4, if_pos rfl, decide_eq_true (show arV (.str z) = 0 from hz.1)]
      rfl
  · refine .inr ⟨by rw [h]; exact b3, _, rfl, rfl, ?_⟩
    unfold lies
    rw [h, if_neg b3, if_neg b5, if_neg b6]
    exact decide_eq_true rfl
theorem fill_pend {kinds : List Str} (hk : Kinds kinds) : ∀ {sh ws : List V} (d : Nat), Fill kinds sh ws → (∀ v ∈ sh, isW v) → pend d (sh.map arV) = some 0 → pend d (ws.map arV) = some 0
  | _, _, d, .nil, _, h => h
  | _, _, d, .cons (v := v) (ps := ps) (sh := sh) (ws := ws) g r, hw, h => by
    cases d with
    | zero => cases h
    | succ d =>
      have h : pend (d + arV v) (sh.map arV) = some 0 := h
      have hw' : ∀ x ∈ sh, isW x := fun x hx => hw x (List.mem_cons_of_mem _ hx)
      rcases g.ar hk (hw v List.mem_cons_self) with ⟨_, a0, ht⟩ | ⟨_, x, rfl, ax, _⟩
      · rw [a0] at h
        have ih := fill_pend hk d r hw' h
        rw [List.map_append, pend_eat _ 1 _ d (eat_app _ _ 1 ht), List.drop_append_of_le_length (Nat.le_refl _), List.drop_length]
        exact ih
      · show pend (d + arV x) (ws.map arV) = some 0
        rw [ax]
        exact fill_pend hk _ r hw' h
theorem fill_laid {kinds : List Str} (hk : Kinds kinds) : ∀ {sh ws : List V} (pre : List V) (u : Und), Fill kinds sh ws → (∀ v ∈ sh, isW v) → ∃ u', laidF kinds (pre ++ ws) sh pre.length u = some u'
  | _, _, pre, u, .nil, _ => ⟨u, rfl⟩
  | _, _, pre, u, .cons (v := v) (ps := ps) (sh := sh) (ws := ws) g r, hw => by
    have hw' : ∀ x ∈ sh, isW x := fun x hx => hw x (List.mem_cons_of_mem _ hx)
    rw [laidF_cons]
    rcases g.ar hk (hw v List.mem_cons_self) with ⟨hH, a0, ht⟩ | ⟨hH, x, rfl, ax, hl⟩
    · rw [if_pos (by unfold lies; rw [if_pos hH]), if_pos hH]
      have en : endAt (pre ++ (ps ++ ws)) pre.length = (pre ++ ps).length := by
        unfold endAt
        rw [List.drop_append_of_le_length (Nat.le_refl _), List.drop_length, List.nil_append, List.map_append, eat_app _ _ 1 ht, List.length_append, List.length_map]
        rfl
      rw [en, ← List.append_assoc]
      exact fill_laid hk (pre ++ ps) _ r hw'
    · have eg : (pre ++ ([x] ++ ws)).getD pre.length .non = x := by
        rw [List.getD_eq_getElem?_getD, List.getElem?_append_right (Nat.le_refl _), Nat.sub_self]
        rfl
      rw [eg, if_pos hl, if_neg hH]
      have := fill_laid hk (pre ++ [x]) (u.put (letW kinds v) pre.length x) r hw'
      rw [List.length_append, List.length_singleton, List.append_assoc] at this
      exact this
theorem fill_tw {kinds : List Str} (hk : Kinds kinds) : ∀ {sh ws : List V}, Fill kinds sh ws → (∀ v ∈ sh, isW v) → ∀ x ∈ ws, twW x
  | _, _, .nil, _, x, h => nomatch h
  | _, _, .cons (v := v) (ps := ps) (sh := sh) (ws := ws) g r, hw, x, h => by
    rcases List.mem_append.mp h with h | h
    · rcases g with ⟨_, h2, _⟩ | ⟨_, i, rfl⟩ | ⟨_, z, hz, rfl⟩ | ⟨ho, rfl⟩
      · exact h2 x h
      · rw [List.mem_singleton.mp h]; exact twW_int i
      · rw [List.mem_singleton.mp h]; exact twW_name hz
      · rw [List.mem_singleton.mp h]; exact ⟨hw v List.mem_cons_self, letO ho⟩
    · exact fill_tw hk r (fun y hy => hw y (List.mem_cons_of_mem _ hy)) x h
def spFilled : Sp := fun vs H Q _ => ∃ (d bt rt nl b : Addr) (ns : List Int) (kinds : List Str) (rs : List Rl) (r : Rl) (zs : List Str) (n : Nat), vs = [.ref d, .ref bt, .ref rt, .ref nl] ∧ Deck H d b ns n ∧ BookAt H bt kinds rs ∧ Bk kinds rs ∧ RuleAt H rt r ∧ r ∈ rs ∧ NamesAt H nl zs ∧ n ≤ 30000 ∧ ∀ (t : Addr) (H' : Hp) (ws : List V), SameB d H H' → H t = none → H' t = some (.tup ws) → Tw ws → (∃ u, laidF kinds ws r.shape 0 ⟨[], [], []⟩ = some u) → Q (.ref t) H'
def spDeeds (K : PySem.W.Frag) : Sp := fun vs H Q _ => ∃ (kt st : Addr) (kinds : List Str) (sh : List V), vs = [.ref kt, .ref st] ∧ H kt = some (.tup (kinds.map V.str)) ∧ H st = some (.tup sh) ∧ Kinds kinds ∧ ShOk kinds sh ∧ ∀ (t : Addr) (ds : List V) (H' : Hp), Same H H' → H' t = some (.tup ds) → Q (.ref t) H'
def isT (z : Str) : Bool := decide (z.cps.toList.head? = some 116)
def tc (zs : List Str) : Nat := (zs.filter isT).length
theorem tc_app (xs ys : List Str) : tc (xs ++ ys) = tc xs + tc ys := by
  unfold tc
  rw [List.filter_append, List.length_append]
def unitsK (kinds : List Str) (vs : List V) : Nat := (vs.filter fun v => !inV v (kinds.map V.str)).length
theorem units_app (kinds : List Str) (xs ys : List V) : unitsK kinds (xs ++ ys) = unitsK kinds xs + unitsK kinds ys := by
  unfold unitsK
  rw [List.filter_append, List.length_append]
theorem pend_units {kinds : List Str} (hk : Kinds kinds) : ∀ (xs : List V) (l m : Nat), (∀ v ∈ xs, isW v) → pend l (xs.map arV) = some m → m ≤ l + unitsK kinds xs
  | [], l, m, _, h => by
    have : l = m := Option.some.inj h
    omega
  | v :: r, 0, m, _, h => by cases h
  | v :: r, l + 1, m, hw, h => by
    have h : pend (l + arV v) (r.map arV) = some m := h
    have ih := pend_units hk r _ _ (fun x hx => hw x (List.mem_cons_of_mem _ hx)) h
    have e : unitsK kinds (v :: r) = unitsK kinds [v] + unitsK kinds r := units_app kinds [v] r
    have a2 := arV_le v
    rcases Nat.eq_zero_or_pos (arV v) with h0 | h0
    · omega
    · have : unitsK kinds [v] = 1 := by
        unfold unitsK
        rcases letW_cases (kinds := kinds) (hw v List.mem_cons_self) with ⟨rfl, _⟩ | ⟨rfl, _⟩ | ⟨⟨z, hz, rfl⟩, _⟩ | ⟨_, hno⟩
        · rw [any_ar] at h0; cases h0
        · rw [var_ar] at h0; cases h0
        · have := (hk z hz).1
          have h0 : 0 < arS z := h0
          omega
        · rw [List.filter_cons, hno]
          rfl
      omega
theorem text_short {n : Nat} (h : n ≤ 11) : (textV (.int (n : Int))).length ≤ 2 ∧ wordV (.int (n : Int)) := by
  have a : ∀ n : Fin 12, (textV (.int ((n.1 : Nat) : Int))).length ≤ 2 := by decide +kernel
  have b : ∀ n : Fin 12, (((n.1 : Nat) : Int)).natAbs.log2 < 1920 := by decide +kernel
  exact ⟨a ⟨n, by omega⟩, b ⟨n, by omega⟩⟩
structure DI (kinds : List Str) (sh : List V) (p : Nat) (zs fs : List Str) : Prop where
  pd : pend zs.length ((sh.drop p).map arV) = some 0
  bf : pend 1 ((sh.take p).map arV) = some zs.length
  three : fs.length + tc zs = 3
  un : tc zs ≤ unitsK kinds (sh.drop p)
  zl : ∀ z ∈ zs, 1 ≤ z.length ∧ z.length ≤ 100
  fl : ∀ z ∈ fs, isT z = true ∧ 1 ≤ z.length ∧ z.length ≤ 100
theorem DI.start {kinds : List Str} {sh : List V} (h : ShOk kinds sh) : DI kinds sh sh.length [] [Str.ofString "t3", Str.ofString "t2", Str.ofString "t1"] := by
  refine ⟨by rw [List.drop_length]; rfl, by rw [List.take_length]; exact h.one, rfl, Nat.zero_le _, (fun _ h => nomatch h), fun z hz => ?_⟩
  simp only [List.mem_cons, List.not_mem_nil, or_false] at hz
  rcases hz with rfl | rfl | rfl <;> decide +kernel
theorem DI.less {kinds : List Str} {sh : List V} {p : Nat} {zs fs : List Str} (h : DI kinds sh (p + 1) zs fs) {v : V} (hv : sh[p]? = some v) : arV v ≤ zs.length ∧ pend (zs.length - arV v + 1) ((sh.drop p).map arV) = some 0 ∧ pend 1 ((sh.take p).map arV) = some (zs.length - arV v + 1) ∧ sh.drop p = v :: sh.drop (p + 1) := by
  have hp : p < sh.length := (List.getElem?_eq_some_iff.mp hv).1
  have ed : sh.drop p = v :: sh.drop (p + 1) := by
    rw [List.drop_eq_getElem_cons hp]
    congr 1
    rw [List.getElem?_eq_getElem hp] at hv
    exact Option.some.inj hv
  have et : sh.take (p + 1) = sh.take p ++ [v] := by rw [List.take_add_one, hv]; rfl
  have bf := h.bf
  rw [et, List.map_append, pend_app] at bf
  cases hq : pend 1 ((sh.take p).map arV) with
  | none => rw [hq] at bf; cases bf
  | some m =>
    rw [hq] at bf
    have bf : pend m [arV v] = some zs.length := bf
    cases m with
    | zero => cases bf
    | succ m =>
      rw [pend_one _ _ (Nat.succ_pos _)] at bf
      have e := Option.some.inj bf
      have hm : m + 1 = zs.length - arV v + 1 := by omega
      refine ⟨by omega, ?_, by rw [hm], ed⟩
      rw [ed, List.map_cons]
      show pend (zs.length - arV v + arV v) ((sh.drop (p + 1)).map arV) = some 0
      rw [show zs.length - arV v + arV v = zs.length by omega]
      exact h.pd
theorem DI.hole {kinds : List Str} {sh : List V} {p : Nat} {zs fs : List Str} (h : DI kinds sh (p + 1) zs fs) {v : V} (hv : sh[p]? = some v) (a0 : arV v = 0) {z : Str} (hz : isT z = false) (hl : 1 ≤ z.length ∧ z.length ≤ 100) : DI kinds sh p (zs ++ [z]) fs := by
  obtain ⟨_, h2, h3, ed⟩ := h.less hv
  rw [a0, Nat.sub_zero] at h2 h3
  have tz : tc (zs ++ [z]) = tc zs := by
    rw [tc_app]
    unfold tc
    rw [List.filter_cons, hz]
    rfl
  refine ⟨by rw [List.length_append]; exact h2, by rw [List.length_append]; exact h3, by rw [tz]; exact h.three, ?_, fun y hy => ?_, h.fl⟩
  · rw [tz, ed]
    have := units_app kinds [v] (sh.drop (p + 1))
    have e : unitsK kinds (v :: sh.drop (p + 1)) = unitsK kinds [v] + unitsK kinds (sh.drop (p + 1)) := this
    have := h.un
    omega
  · rcases List.mem_append.mp hy with g | g
    · exact h.zl y g
    · rw [List.mem_singleton.mp g]; exact hl
theorem DI.put {kinds : List Str} {sh : List V} {p : Nat} {zs fs zs0 rd : List Str} (hk : Kinds kinds) (ok : ShOk kinds sh) (h : DI kinds sh (p + 1) zs fs) {v : V} (hv : sh[p]? = some v) (hn : inV v (kinds.map V.str) = false) (e : zs = zs0 ++ rd) (hr : rd.length = arV v) :
    (∀ z fs2, fs2.length + 1 = fs.length + tc rd → isT z = true → 1 ≤ z.length → z.length ≤ 100 → (∀ y ∈ fs2, isT y = true ∧ 1 ≤ y.length ∧ y.length ≤ 100) → DI kinds sh p (zs0 ++ [z]) fs2) ∧
    (∀ z fs2, fs2.length = fs.length + tc rd → isT z = false → 1 ≤ z.length → z.length ≤ 100 → (∀ y ∈ fs2, isT y = true ∧ 1 ≤ y.length ∧ y.length ≤ 100) → DI kinds sh p (zs0 ++ [z]) fs2) ∧ (0 < p → 1 ≤ fs.length + tc rd) := by
  obtain ⟨h1, h2, h3, ed⟩ := h.less hv
  subst e
  rw [List.length_append, hr, Nat.add_sub_cancel] at h2 h3
  have th := h.three
  have un := h.un
  rw [tc_app] at th un
  have uv : unitsK kinds (sh.drop p) = 1 + unitsK kinds (sh.drop (p + 1)) := by
    rw [ed]
    have := units_app kinds [v] (sh.drop (p + 1))
    have e1 : unitsK kinds [v] = 1 := by
      unfold unitsK
      rw [List.filter_cons, hn]
      rfl
    have e : unitsK kinds (v :: sh.drop (p + 1)) = unitsK kinds [v] + unitsK kinds (sh.drop (p + 1)) := this
    omega
  have zl0 : ∀ y ∈ zs0, 1 ≤ y.length ∧ y.length ≤ 100 := fun y hy => h.zl y (List.mem_append_left _ hy)
  refine ⟨fun z fs2 hf hz l1 l2 hfl => ⟨by rw [List.length_append]; exact h2, by rw [List.length_append]; exact h3, ?_, ?_, fun y hy => ?_, hfl⟩, fun z fs2 hf hz l1 l2 hfl => ⟨by rw [List.length_append]; exact h2, by rw [List.length_append]; exact h3, ?_, ?_, fun y hy => ?_, hfl⟩, fun hp => ?_⟩
  · rw [tc_app, show tc [z] = 1 by unfold tc; rw [List.filter_cons, hz]; rfl]; omega
  · rw [tc_app, show tc [z] = 1 by unfold tc; rw [List.filter_cons, hz]; rfl, uv]; omega
  · rcases List.mem_append.mp hy with g | g
    · exact zl0 y g
    · rw [List.mem_singleton.mp g]; exact ⟨l1, l2⟩
  · rw [tc_app, show tc [z] = 0 by unfold tc; rw [List.filter_cons, hz]; rfl]; omega
  · rw [tc_app, show tc [z] = 0 by unfold tc; rw [List.filter_cons, hz]; rfl, uv]; omega
  · rcases List.mem_append.mp hy with g | g
    · exact zl0 y g
    · rw [List.mem_singleton.mp g]; exact ⟨l1, l2⟩
  · have u5 := ok.few
    have hs : unitsK kinds sh ≤ 5 := u5
    have es : unitsK kinds sh = unitsK kinds (sh.take p) + unitsK kinds (sh.drop p) := by
      rw [← units_app, List.take_append_drop]
    have pu := pend_units hk (sh.take p) 1 _ (fun x hx => ok.w x (List.mem_of_mem_take hx)) h3
    have tl : tc zs0 ≤ zs0.length := List.length_filter_le _ _
    omega
theorem kind_ar {kinds : List Str} (hk : Kinds kinds) {v : V} (hv : isW v) (h : inV v (kinds.map V.str) = true) : arV v = 0 := by
  obtain ⟨b1, b2, b3, _, _, _⟩ := lets
  rcases letW_cases (kinds := kinds) hv with ⟨rfl, _⟩ | ⟨rfl, _⟩ | ⟨⟨z, hz, rfl⟩, _⟩ | ⟨_, hno⟩
  · exact any_ar
  · exact var_ar
  · exact (hk z hz).1
  · rw [hno] at h; cases h
theorem cps_app (a b : Str) : (a ++ b).cps.toList = a.cps.toList ++ b.cps.toList := by
  show (a.cps ++ b.cps).toList = _
  exact Array.toList_append
theorem isT_h (tx : Str) : isT (Str.ofString "h" ++ tx) = false := by
  unfold isT
  rw [cps_app, show (Str.ofString "h").cps.toList = [104] by decide +kernel]
  rfl
theorem isT_out : isT (Str.ofString "out") = false := by decide +kernel
theorem first_at {z : Str} (h : 1 ≤ z.length) : ∃ c, atI z.cps.toList 0 = some c ∧ ((V.str ⟨#[c]⟩ = V.str (Str.ofString "t")) ↔ isT z = true) := by
  have hl : z.cps.toList.length = z.length := rfl
  cases e : z.cps.toList with
  | nil => rw [e] at hl; simp at hl; omega
  | cons c r =>
    refine ⟨c, atI_nat (j := 0) rfl, ?_⟩
    unfold isT
    rw [e]
    have et : Str.ofString "t" = ⟨#[116]⟩ := by decide +kernel
    rw [et]
    constructor
    · intro h
      have : (#[c] : Array Nat) = #[116] := congrArg Str.cps (V.str.inj h)
      have : c = 116 := by simpa using this
      subst this
      rfl
    · intro h
      have : c = 116 := by simpa using h
      subst this
      rfl
theorem ops_count {v : V} (hv : isW v) : ((if inV v [V.str "add", V.str "sub", V.str "mul", V.str "neg"] = true then (1 : Int) else 0) + if inV v [V.str "add", V.str "sub", V.str "mul"] = true then 1 else 0) = (arV v : Int) := by
  have three := three_in hv
  have four := four_in hv
  have a2 := arV_le v
  by_cases c : 0 < arV v
  · rw [if_pos (four.mpr c)]
    by_cases c2 : arV v = 2
    · rw [if_pos (three.mpr c2)]; omega
    · rw [if_neg fun e => c2 (three.mp e)]; omega
  · rw [if_neg fun e => c (four.mp e), if_neg fun e => by have := three.mp e; omega]; omega
def spBook : Sp := fun vs H Q _ => ∃ (d nl b : Addr) (ns : List Int) (zs : List Str) (n : Nat), vs = [.ref d, .ref nl] ∧ Deck H d b ns n ∧ NamesAt H nl zs ∧ n ≤ 1000 ∧ ∀ (bt : Addr) (n' : Nat) (H' : Hp) (kinds : List Str) (rs : List Rl), SameB d H H' → H' d = some (.lst [.ref b, .int (n' : Int)]) → n' ≤ n + 1000 → BookAt H' bt kinds rs → Bk kinds rs → 1 ≤ rs.length → Q (.ref bt) H'
def ShsAt (H : Hp) (sa : List Addr) (kinds : List Str) (ps : List (Str × List V)) : Prop := sa.length = ps.length ∧ ∀ (i : Nat) (k : Str) (sh : List V), ps[i]? = some (k, sh) → ShOk kinds sh ∧ ∃ a s : Addr, sa[i]? = some a ∧ H a = some (.tup [.str k, .ref s]) ∧ H s = some (.tup sh)
theorem ShsAt.nil (H : Hp) (kinds : List Str) : ShsAt H [] kinds [] := ⟨rfl, fun i k sh h => by simp at h⟩
theorem ShsAt.sameB {H H' : Hp} {d b : Addr} {ns : List Int} {n : Nat} {sa : List Addr} {kinds : List Str} {ps : List (Str × List V)} (h : ShsAt H sa kinds ps) (hD : Deck H d b ns n) (s : SameB d H H') : ShsAt H' sa kinds ps := ⟨h.1, fun i k sh hi => by
  obtain ⟨ok, a, t, h1, h2, h3⟩ := h.2 i k sh hi
  exact ⟨ok, a, t, h1, s _ _ (ne_of h2 hD.1 (by intro e; cases e)) h2, s _ _ (ne_of h3 hD.1 (by intro e; cases e)) h3⟩⟩
theorem ShsAt.same {H H' : Hp} {sa : List Addr} {kinds : List Str} {ps : List (Str × List V)} (h : ShsAt H sa kinds ps) (s : Same H H') : ShsAt H' sa kinds ps := ⟨h.1, fun i k sh hi => by
  obtain ⟨ok, a, t, h1, h2, h3⟩ := h.2 i k sh hi
  exact ⟨ok, a, t, h1, s _ _ h2, s _ _ h3⟩⟩
theorem ShsAt.snoc {H : Hp} {sa : List Addr} {kinds : List Str} {ps : List (Str × List V)} (h : ShsAt H sa kinds ps) {a s : Addr} {k : Str} {sh : List V} (ok : ShOk kinds sh) (h1 : H a = some (.tup [.str k, .ref s])) (h2 : H s = some (.tup sh)) : ShsAt H (sa ++ [a]) kinds (ps ++ [(k, sh)]) := by
  refine ⟨by rw [List.length_append, List.length_append, h.1]; rfl, fun i k' sh' hi => ?_⟩
  by_cases c : i < ps.length
  · rw [List.getElem?_append_left c] at hi
    obtain ⟨ok', a', t', g1, g2, g3⟩ := h.2 i k' sh' hi
    exact ⟨ok', a', t', by rw [List.getElem?_append_left (by rw [h.1]; exact c)]; exact g1, g2, g3⟩
  · rw [List.getElem?_append_right (by omega)] at hi
    have hz : i - ps.length = 0 := by
      rcases Nat.eq_zero_or_pos (i - ps.length) with g | g
      · exact g
      · rw [List.getElem?_eq_none (by rw [List.length_singleton]; omega)] at hi; cases hi
    rw [hz] at hi
    cases hi
    exact ⟨ok, a, s, by rw [List.getElem?_append_right (by rw [h.1]; omega), h.1, hz]; rfl, h1, h2⟩
theorem shOk_hole {kinds : List Str} (hk : Kinds kinds) {z : Str} (hz : z ∈ kinds) : ShOk kinds [.str z] := by
  refine ⟨fun v hv => by rw [List.mem_singleton.mp hv]; exact ⟨Sum.inr z, rfl⟩, ?_, by show (1 : Nat) ≤ 11; decide, Nat.le_trans (List.length_filter_le _ _) (by show (1 : Nat) ≤ 5; decide)⟩
  show pend 1 [arS z] = some 0
  rw [(hk z hz).1]
  rfl
theorem shOk_any (kinds : List Str) : ShOk kinds [anyW] := ⟨fun v hv => by rw [List.mem_singleton.mp hv]; exact ⟨Sum.inr _, rfl⟩, by show pend 1 [arV anyW] = some 0; rw [any_ar]; rfl, by show (1 : Nat) ≤ 11; decide, Nat.le_trans (List.length_filter_le _ _) (by show (1 : Nat) ≤ 5; decide)⟩
theorem shOk_var (kinds : List Str) : ShOk kinds [varW] := ⟨fun v hv => by rw [List.mem_singleton.mp hv]; exact ⟨Sum.inr _, rfl⟩, by show pend 1 [arV varW] = some 0; rw [var_ar]; rfl, by show (1 : Nat) ≤ 11; decide, Nat.le_trans (List.length_filter_le _ _) (by show (1 : Nat) ≤ 5; decide)⟩
theorem shOk_add {kinds : List Str} (hk : Kinds kinds) {z : Str} (hz : z ∈ kinds) : ShOk kinds [.str (Str.ofString "add"), .str z, .str z] := by
  refine ⟨fun v hv => ?_, ?_, by show (3 : Nat) ≤ 11; decide, Nat.le_trans (List.length_filter_le _ _) (by show (3 : Nat) ≤ 5; decide)⟩
  · simp only [List.mem_cons, List.not_mem_nil, or_false] at hv
    rcases hv with rfl | rfl | rfl <;> exact ⟨Sum.inr _, rfl⟩
  · show pend 1 [arS (Str.ofString "add"), arS z, arS z] = some 0
    rw [(hk z hz).1, show arS (Str.ofString "add") = 2 by decide +kernel]
    rfl
theorem shOk_neg {kinds : List Str} (hk : Kinds kinds) {z : Str} (hz : z ∈ kinds) : ShOk kinds [.str (Str.ofString "neg"), .str z] := by
  refine ⟨fun v hv => ?_, ?_, by show (2 : Nat) ≤ 11; decide, Nat.le_trans (List.length_filter_le _ _) (by show (2 : Nat) ≤ 5; decide)⟩
  · simp only [List.mem_cons, List.not_mem_nil, or_false] at hv
    rcases hv with rfl | rfl <;> exact ⟨Sum.inr _, rfl⟩
  · show pend 1 [arS (Str.ofString "neg"), arS z] = some 0
    rw [(hk z hz).1, show arS (Str.ofString "neg") = 1 from ar_neg]
    rfl
end Pc
namespace Pc
open PySem PySem.Spec L2 PyProof.Rows
theorem RuleAt.keep {H H' : Hp} {a : Addr} {r : Rl} (h : RuleAt H a r) (t : ∀ {a : Addr} {xs : List V}, H a = some (.tup xs) → H' a = some (.tup xs)) : RuleAt H' a r := by
  obtain ⟨sa, da, ds, h1, h2, h3⟩ := h
  exact ⟨sa, da, ds, t h1, t h2, t h3⟩
theorem RulesAt.keep {H H' : Hp} {ra : List Addr} {rs : List Rl} (h : RulesAt H ra rs) (t : ∀ {a : Addr} {xs : List V}, H a = some (.tup xs) → H' a = some (.tup xs)) : RulesAt H' ra rs := ⟨h.1, fun i r hr => by
  obtain ⟨a, h1, h2⟩ := h.2 i r hr
  exact ⟨a, h1, h2.keep t⟩⟩
theorem ShsAt.keep {H H' : Hp} {sa : List Addr} {kinds : List Str} {ps : List (Str × List V)} (h : ShsAt H sa kinds ps) (t : ∀ {a : Addr} {xs : List V}, H a = some (.tup xs) → H' a = some (.tup xs)) : ShsAt H' sa kinds ps := ⟨h.1, fun i k sh hi => by
  obtain ⟨ok, a, s, h1, h2, h3⟩ := h.2 i k sh hi
  exact ⟨ok, a, s, h1, t h2, t h3⟩⟩
theorem sameB_tup {H H' : Hp} {d b : Addr} {ns : List Int} {n : Nat} (hD : Deck H d b ns n) (s : SameB d H H') {a : Addr} {xs : List V} (h : H a = some (.tup xs)) : H' a = some (.tup xs) := s _ _ (ne_of h hD.1 (by intro e; cases e)) h
theorem RulesAt.snoc {H : Hp} {ra : List Addr} {rs : List Rl} (h : RulesAt H ra rs) {a : Addr} {r : Rl} (hr : RuleAt H a r) : RulesAt H (ra ++ [a]) (rs ++ [r]) := by
  refine ⟨by rw [List.length_append, List.length_append, h.1]; rfl, fun i r' hi => ?_⟩
  by_cases c : i < rs.length
  · rw [List.getElem?_append_left c] at hi
    obtain ⟨a', g1, g2⟩ := h.2 i r' hi
    exact ⟨a', by rw [List.getElem?_append_left (by rw [h.1]; exact c)]; exact g1, g2⟩
  · rw [List.getElem?_append_right (by omega)] at hi
    have hz : i - rs.length = 0 := by
      rcases Nat.eq_zero_or_pos (i - rs.length) with g | g
      · exact g
      · rw [List.getElem?_eq_none (by rw [List.length_singleton]; omega)] at hi; cases hi
    rw [hz] at hi
    cases hi
    exact ⟨a, by rw [List.getElem?_append_right (by rw [h.1]; omega), h.1, hz]; rfl, hr⟩
theorem RulesAt.rot {H : Hp} {ra : List Addr} {rs : List Rl} (h : RulesAt H ra rs) (k : Nat) : RulesAt H (ra.drop k ++ ra.take k) (rs.drop k ++ rs.take k) := by
  have h1 := h.1
  refine ⟨by rw [List.length_append, List.length_append, List.length_drop, List.length_drop, List.length_take, List.length_take, h1], fun i r hi => ?_⟩
  by_cases c : i < rs.length - k
  · rw [List.getElem?_append_left (by rw [List.length_drop]; exact c), List.getElem?_drop] at hi
    rw [List.getElem?_append_left (by rw [List.length_drop, h1]; exact c), List.getElem?_drop]
    exact h.2 _ r hi
  · rw [List.getElem?_append_right (by rw [List.length_drop]; omega), List.length_drop] at hi
    rw [List.getElem?_append_right (by rw [List.length_drop, h1]; omega), List.length_drop, h1]
    by_cases c2 : i - (rs.length - k) < k
    · rw [List.getElem?_take_of_lt c2] at hi
      rw [List.getElem?_take_of_lt c2]
      exact h.2 _ r hi
    · rw [List.getElem?_eq_none (by rw [List.length_take]; omega)] at hi
      cases hi
theorem bk_rot {kinds zs : List Str} {rs : List Rl} (hk : Kinds kinds) (nd : zs.Nodup) (e : rs.map (·.name) = (zs.drop 8).take rs.length) (so : ∀ r ∈ rs, ShOk kinds r.shape) (hl : rs.length ≤ 40) (k : Nat) : Bk kinds (rs.drop k ++ rs.take k) := by
  have hp : (rs.drop k ++ rs.take k).Perm rs := List.perm_append_comm.trans (by rw [List.take_append_drop])
  refine ⟨hk, (hp.map (·.name)).nodup_iff.mpr ?_, fun r hr => ?_, by rw [hp.length_eq]; omega⟩
  · rw [e]
    exact (nd.sublist (List.drop_sublist 8 zs)).sublist (List.take_sublist _ _)
  · have o := so r (hp.mem_iff.mp hr)
    exact ⟨o.w, o.one, by have := o.len; omega⟩
theorem names_next {zs : List Str} {rs : List Rl} {r : Rl} {i : Nat} (e : rs.map (·.name) = (zs.drop 8).take i) (hz : zs[8 + i]? = some r.name) : (rs ++ [r]).map (·.name) = (zs.drop 8).take (i + 1) := by
  rw [List.map_append, e, List.take_add_one, List.getElem?_drop, hz]
  rfl
end Pc
namespace Pc
open PySem PySem.Spec L2 PyProof.Rows
def spNamesD : Sp := fun vs H Q _ => ∃ (d b : Addr) (ns : List Int) (n : Nat), vs = [.ref d] ∧ Deck H d b ns n ∧ n ≤ 1000 ∧ ∀ (l : Addr) (H' : Hp) (zs : List Str), SameB d H H' → H' d = some (.lst [.ref b, .int ((n + 1 : Nat) : Int)]) → NamesAt H' l zs → Q (.ref l) H'
abbrev abcS : Str := Str.ofString "abcdefghijklmnopqrstuvwxyz"
def ltr (i : Int) : Str := ⟨#[97 + (i % 26).toNat]⟩
theorem ltr_codes (i : Int) : (ltr i).cps.toList = [97 + (i % 26).toNat] := rfl
theorem ltr_len (i : Int) : (ltr i).length = 1 := rfl
theorem ltr_at (i : Int) : atI abcS.cps.toList (i % 26) = some (97 + (i % 26).toNat) := by
  have a : ∀ j : Fin 26, abcS.cps.toList[j.1]? = some (97 + j.1) := by decide +kernel
  obtain ⟨j, hj, e⟩ : ∃ j : Nat, j < 26 ∧ i % 26 = (j : Int) := ⟨(i % 26).toNat, by omega, by omega⟩
  rw [e, Int.toNat_natCast]
  exact atI_nat (a ⟨j, hj⟩)
theorem rIxS_let {i : Int} {H : Hp} {Q : VK} (q : Q (.str (ltr i)) H) : rIxS (.str abcS) (.int (i % 26)) H Q :=
  ⟨abcS, i % 26, _, rfl, rfl, by rw [sizeLine_eq]; decide +kernel, ltr_at i, q⟩
def ownW : List Str := ["add", "sub", "mul", "neg", "any", "var", "put", "load", "out"]
def ownC : List (List Nat) := ownW.map fun z => z.cps.toList
theorem codes_inj {a b : Str} (h : a.cps.toList = b.cps.toList) : a = b := by
  cases a; cases b
  congr 1
  exact Array.toList_inj.mp h
theorem own_codes {z : Str} : z ∈ ownW ↔ z.cps.toList ∈ ownC := by
  unfold ownC
  constructor
  · exact fun h => List.mem_map.mpr ⟨z, h, rfl⟩
  · intro h
    obtain ⟨y, hy, e⟩ := List.mem_map.mp h
    rw [← codes_inj e]
    exact hy
theorem own_ok {z : Str} (h : z ∉ ownW) : nmOk z := by
  refine ⟨?_, fun e => h ?_, fun e => h ?_⟩
  · rcases Nat.eq_zero_or_pos (arS z) with g | g
    · exact g
    · exfalso
      apply h
      rcases arS_cases g with rfl | rfl | rfl | rfl
      · exact List.mem_cons_self
      · exact List.mem_cons_of_mem _ List.mem_cons_self
      · exact List.mem_cons_of_mem _ (List.mem_cons_of_mem _ List.mem_cons_self)
      · exact List.mem_cons_of_mem _ (List.mem_cons_of_mem _ (List.mem_cons_of_mem _ List.mem_cons_self))
  · rw [V.str.inj (show V.str z = V.str (Str.ofString "any") from e)]
    decide +kernel
  · rw [V.str.inj (show V.str z = V.str (Str.ofString "var") from e)]
    decide +kernel
def nm0 (m : Int) (tail : Str) (k : Nat) : Str := ltr (m + (k : Int)) ++ ltr (m / 7 + (k : Int) / 26) ++ tail
def nm1 (m : Int) (k : Nat) : Str := ownW.getD (((k : Int) + m) % 9).toNat "" ++ ltr (m / 9 + (k : Int) / 9)
def nm2 (m : Int) (k : Nat) : Str := mulS (ltr m) (1 + (k : Int) % 3).toNat ++ mulS (ltr (m + 1)) ((k : Int) / 3 % 4).toNat ++ ltr (m + 2 + (k : Int) / 12)
def tailS (m : Int) : Str := mulS (ltr (m / 26)) (m / 676 % 6).toNat
def nmX (c : Int) (k : Nat) : Str := if c % 3 = 2 then nm2 (c / 3) k else if c % 3 = 1 then nm1 (c / 3) k else nm0 (c / 3) (tailS (c / 3)) k
def nmP (c : Int) (k : Nat) : Str := if nmX c k ∈ ownW then nmX c k ++ "xq" else nmX c k
theorem mul_codes (i : Int) (n : Nat) : (mulS (ltr i) n).cps.toList = List.replicate n (97 + (i % 26).toNat) := by
  rw [mulS_codes, ltr_codes]
  induction n with
  | zero => rfl
  | succ n ih => rw [List.replicate_succ, List.flatten_cons, ih, List.replicate_succ]; rfl
theorem nm0_codes (m : Int) (t : Str) (k : Nat) : (nm0 m t k).cps.toList = (97 + ((m + (k : Int)) % 26).toNat) :: (97 + ((m / 7 + (k : Int) / 26) % 26).toNat) :: t.cps.toList := by
  unfold nm0
  rw [cps_app, cps_app, ltr_codes, ltr_codes]
  rfl
theorem nm0_inj {m : Int} {t : Str} {k k' : Nat} (h : k < 60) (h' : k' < 60) (e : nm0 m t k = nm0 m t k') : k = k' := by
  have e := congrArg (fun z : Str => z.cps.toList) e
  simp only [nm0_codes, List.cons.injEq] at e
  obtain ⟨e1, e2, _⟩ := e
  omega
theorem own_nodup : ownW.Nodup := by decide +kernel
theorem nm1_inj {m : Int} {k k' : Nat} (h : k < 60) (h' : k' < 60) (e : nm1 m k = nm1 m k') : k = k' := by
  unfold nm1 at e
  have e := congrArg (fun z : Str => z.cps.toList) e
  simp only [cps_app, ltr_codes] at e
  obtain ⟨e1, e2⟩ := List.append_inj' e rfl
  have e1 := codes_inj e1
  have b1 : (((k : Int) + m) % 9).toNat < ownW.length := by show _ < 9; omega
  have b2 : (((k' : Int) + m) % 9).toNat < ownW.length := by show _ < 9; omega
  rw [List.getD_eq_getElem?_getD, List.getD_eq_getElem?_getD, List.getElem?_eq_getElem b1, List.getElem?_eq_getElem b2] at e1
  have e3 := (List.getElem_inj own_nodup).mp (show ownW[(((k : Int) + m) % 9).toNat] = ownW[(((k' : Int) + m) % 9).toNat] from e1)
  simp only [List.cons.injEq, and_true] at e2
  omega
theorem nm2_codes (m : Int) (k : Nat) : (nm2 m k).cps.toList = List.replicate (1 + (k : Int) % 3).toNat (97 + (m % 26).toNat) ++ (List.replicate ((k : Int) / 3 % 4).toNat (97 + ((m + 1) % 26).toNat) ++ [97 + ((m + 2 + (k : Int) / 12) % 26).toNat]) := by
  unfold nm2
  rw [cps_app, cps_app, mul_codes, mul_codes, ltr_codes, List.append_assoc]
theorem nm2_inj {m : Int} {k k' : Nat} (h : k < 60) (h' : k' < 60) (e : nm2 m k = nm2 m k') : k = k' := by
  have e := congrArg (fun z : Str => z.cps.toList) e
  simp only [nm2_codes] at e
  have ab : 97 + ((m + 1) % 26).toNat ≠ 97 + (m % 26).toNat := by omega
  have ac : ∀ k : Nat, k < 60 → 97 + ((m + 2 + (k : Int) / 12) % 26).toNat ≠ 97 + (m % 26).toNat := fun k h => by omega
  have bc : ∀ k : Nat, k < 60 → 97 + ((m + 2 + (k : Int) / 12) % 26).toNat ≠ 97 + ((m + 1) % 26).toNat := fun k h => by omega
  have c1 := congrArg (List.count (97 + (m % 26).toNat)) e
  have c2 := congrArg (List.count (97 + ((m + 1) % 26).toNat)) e
  have c3 := congrArg List.getLast? e
  rw [List.count_append, List.count_append, List.count_append, List.count_append, List.count_replicate_self, List.count_replicate_self, List.count_replicate, List.count_replicate, List.count_singleton, List.count_singleton, if_neg (by simpa using ab), if_neg (by simpa using ac k h), if_neg (by simpa using ab), if_neg (by simpa using ac k' h')] at c1
  rw [List.count_append, List.count_append, List.count_append, List.count_append, List.count_replicate_self, List.count_replicate_self, List.count_replicate, List.count_replicate, List.count_singleton, List.count_singleton, if_neg (by simpa using ab.symm), if_neg (by simpa using bc k h), if_neg (by simpa using ab.symm), if_neg (by simpa using bc k' h')] at c2
  rw [← List.append_assoc, ← List.append_assoc, List.getLast?_concat, List.getLast?_concat] at c3
  have c3 := Option.some.inj c3
  omega
theorem nm1_out (m : Int) (k : Nat) : nm1 m k ∉ ownW := by
  intro h
  have h := own_codes.mp h
  unfold nm1 at h
  have b1 : (((k : Int) + m) % 9).toNat < ownW.length := by show _ < 9; omega
  rw [cps_app, ltr_codes, List.getD_eq_getElem?_getD, List.getElem?_eq_getElem b1] at h
  have a : ∀ x ∈ ownC, x.dropLast ∉ ownC := by decide +kernel
  apply a _ h
  rw [List.dropLast_concat]
  exact own_codes.mp (List.getElem_mem b1)
theorem nm2_out {m : Int} {k : Nat} (hk : k < 60) : nm2 m k ∉ ownW := by
  intro h
  have h := own_codes.mp h
  rw [nm2_codes] at h
  have a : ∀ x ∈ ownC, 3 ≤ x.length ∧ x.getD 1 0 ≠ x.getD 0 0 ∧ x.getD 1 0 ≠ x.getD 0 0 + 1 ∧ (x.getD 0 0 = 122 → False) := by decide +kernel
  obtain ⟨i, hi⟩ : ∃ i, (1 + (k : Int) % 3).toNat = i + 1 := ⟨((k : Int) % 3).toNat, by omega⟩
  obtain ⟨a1, a2, a3, a4⟩ := a _ h
  rw [hi, List.replicate_succ] at a1 a2 a3 a4
  cases i with
  | succ i =>
    rw [List.replicate_succ] at a2
    exact a2 rfl
  | zero =>
    cases hj : ((k : Int) / 3 % 4).toNat with
    | zero =>
      rw [hj] at a1
      simp at a1
    | succ j =>
      rw [hj, List.replicate_succ] at a3
      simp at a3 a4
      omega
theorem own_len {z : Str} (h : z ∈ ownW) : z.length ≤ 4 ∧ 3 ≤ z.length := by
  have a : ∀ z ∈ ownW, z.length ≤ 4 ∧ 3 ≤ z.length := by decide +kernel
  exact a z h
theorem xq_len : (Str.length "xq") = 2 := by decide +kernel
theorem nmX_inj {c : Int} {k k' : Nat} (h : k < 60) (h' : k' < 60) (e : nmX c k = nmX c k') : k = k' := by
  unfold nmX at e
  by_cases c2 : c % 3 = 2
  · rw [if_pos c2, if_pos c2] at e; exact nm2_inj h h' e
  rw [if_neg c2, if_neg c2] at e
  by_cases c1 : c % 3 = 1
  · rw [if_pos c1, if_pos c1] at e; exact nm1_inj h h' e
  rw [if_neg c1, if_neg c1] at e
  exact nm0_inj h h' e
theorem nmX_own {c : Int} {k : Nat} (h : k < 60) (e : nmX c k ∈ ownW) (j : Nat) : (nmX c j).length = (nmX c k).length := by
  unfold nmX at e ⊢
  by_cases c2 : c % 3 = 2
  · rw [if_pos c2] at e; exact absurd e (nm2_out h)
  rw [if_neg c2] at e
  rw [if_neg c2, if_neg c2]
  by_cases c1 : c % 3 = 1
  · rw [if_pos c1] at e; exact absurd e (nm1_out _ _)
  rw [if_neg c1, if_neg c1]
  unfold nm0
  rw [Str.length_append, Str.length_append, Str.length_append, Str.length_append, ltr_len, ltr_len, ltr_len, ltr_len]
theorem nmP_inj {c : Int} {k k' : Nat} (h : k < 60) (h' : k' < 60) (e : nmP c k = nmP c k') : k = k' := by
  unfold nmP at e
  have x2 := xq_len
  by_cases o : nmX c k ∈ ownW
  · rw [if_pos o] at e
    have l1 := nmX_own h o k'
    have e2 := congrArg Str.length e
    by_cases o' : nmX c k' ∈ ownW
    · rw [if_pos o'] at e
      have e := congrArg (fun z : Str => z.cps.toList) e
      simp only [cps_app] at e
      exact nmX_inj h h' (codes_inj (List.append_inj' e rfl).1)
    · rw [if_neg o', Str.length_append] at e2
      omega
  · rw [if_neg o] at e
    by_cases o' : nmX c k' ∈ ownW
    · have l1 := nmX_own h' o' k
      rw [if_pos o'] at e
      have e2 := congrArg Str.length e
      rw [Str.length_append] at e2
      omega
    · rw [if_neg o'] at e
      exact nmX_inj h h' e
theorem nmP_ok (c : Int) (k : Nat) : nmOk (nmP c k) := by
  apply own_ok
  unfold nmP
  by_cases o : nmX c k ∈ ownW
  · rw [if_pos o]
    intro h
    have a := (own_len h).1
    have b := (own_len o).2
    rw [Str.length_append, xq_len] at a
    omega
  · rw [if_neg o]; exact o
theorem names_made {H : Hp} {l : Addr} {c : Int} (h : H l = some (.lst ((List.range 60).map fun k => V.str (nmP c k)))) : NamesAt H l ((List.range 60).map (nmP c)) := by
  refine ⟨by rw [List.map_map]; exact h, by rw [List.length_map, List.length_range], ?_, fun z hz => ?_⟩
  · refine List.pairwise_map.mpr (List.Pairwise.imp_of_mem ?_ List.nodup_range)
    intro a b ha hb n e
    exact n (nmP_inj (List.mem_range.mp ha) (List.mem_range.mp hb) e)
  · obtain ⟨k, _, rfl⟩ := List.mem_map.mp hz
    exact nmP_ok c k
theorem nm0_len (m m' : Int) (k : Nat) : (nm0 m (tailS m') k).length ≤ 100 := by
  unfold nm0 tailS
  rw [Str.length_append, Str.length_append, ltr_len, ltr_len]
  have e : (mulS (ltr (m' / 26)) (m' / 676 % 6).toNat).length = (mulS (ltr (m' / 26)) (m' / 676 % 6).toNat).cps.toList.length := rfl
  rw [e, mul_codes, List.length_replicate]
  omega
theorem mul_len (i : Int) (n : Nat) : (mulS (ltr i) n).length = n := by
  have e : (mulS (ltr i) n).length = (mulS (ltr i) n).cps.toList.length := rfl
  rw [e, mul_codes, List.length_replicate]
theorem nm1_len (m : Int) (k : Nat) : (nm1 m k).length ≤ 100 := by
  unfold nm1
  have b1 : (((k : Int) + m) % 9).toNat < ownW.length := by show _ < 9; omega
  rw [Str.length_append, ltr_len, List.getD_eq_getElem?_getD, List.getElem?_eq_getElem b1]
  have := (own_len (List.getElem_mem b1)).1
  show (ownW[(((k : Int) + m) % 9).toNat]).length + 1 ≤ 100
  omega
theorem nm2_len (m : Int) (k : Nat) : (nm2 m k).length ≤ 100 := by
  unfold nm2
  rw [Str.length_append, Str.length_append, ltr_len, mul_len, mul_len]
  omega
theorem nmX_len (c : Int) (k : Nat) : (nmX c k).length ≤ 100 := by
  unfold nmX
  by_cases c2 : c % 3 = 2
  · rw [if_pos c2]; exact nm2_len _ _
  rw [if_neg c2]
  by_cases c1 : c % 3 = 1
  · rw [if_pos c1]; exact nm1_len _ _
  rw [if_neg c1]; exact nm0_len _ _ _
theorem own_in (z : Str) : (inV (.str z) (ownW.map V.str) = true) ↔ z ∈ ownW := by
  constructor
  · intro h
    obtain ⟨y, hy, e⟩ := List.mem_map.mp (inV_str h)
    rw [← V.str.inj e]
    exact hy
  · intro h
    exact inV_mem (List.mem_map.mpr ⟨z, h, rfl⟩)
theorem b_min : bootBuiltins "min" = some (.builtin "min") := by decide +kernel
theorem BookAt.keep {H H' : Hp} {b : Addr} {kinds : List Str} {rs : List Rl} (h : BookAt H b kinds rs) (t : ∀ {a : Addr} {xs : List V}, H a = some (.tup xs) → H' a = some (.tup xs)) : BookAt H' b kinds rs := by
  obtain ⟨kt, rt, ra, h1, h2, h3, h4⟩ := h
  exact ⟨kt, rt, ra, t h1, t h2, t h3, h4.keep t⟩
theorem Tw.pos {ws : List V} (h : Tw ws) : 0 < ws.length := by
  cases ws with
  | nil => cases h.one
  | cons x r => exact Nat.succ_pos _
end Pc
namespace K41
open PySem PySem.Spec L2 PyProof.Rows Pc
set_option hygiene false
set_option compiler.extract_closed false
local macro_rules | `(tactic| push_cast [$xs,*]) => `(tactic| simp only [↓cons_same, ↓l1_same, ↓l2_same, ↓l3_same, ↓exists_eq_left, ↓exists_eq_left', ↓int_ex, ↓ref_ex, ↓bl_ex, ↓int_ex2, tVarD, tSeq, tIfS, tRet, tRetN, tNext, tVar, tC, tTest, tB, tOp, tUn, rI, rI0, rU, rEq, rNe, tCall, tCB, tCons, tNil, tAnd, tOr, tNot, tAndV, tOrV, tNotV, tIf, gName, tAsg, tBM, tBM0, tSl, tNoPart, tPart, rSlS, rSlL, tLst, tTup, tDrop, tNoIf, iStr, iList, iTup, iRng1, iRng2, tLC, tSetLC, frOf, List.set_cons_zero, List.set_cons_succ, List.getElem?_cons_zero, List.getElem?_cons_succ, Option.some.injEq, V.int.injEq, V.str.injEq, V.bl.injEq, V.ref.injEq, List.cons.injEq, exists_eq_left, exists_eq_left', exists_eq_right, exists_eq_right', exists_and_left, exists_and_right, and_true, true_and, List.cons_append, List.nil_append, List.append_nil, reduceCtorEq, false_and, exists_false, false_or, or_false, decide_eq_true_eq, eq_self, if_true, if_false, Bool.false_eq_true, Bool.true_eq_false, cxOf_K, cxOf_P, cxOf_w, cxOf_mg, cxOf_b, List.map_cons, List.map_nil, Option.getD_some, Option.getD_none, exists_const, nox_K, and_assoc, exists_eq, exists_eq', V.ty.injEq, tVals, Int.reduceLT, Int.reduceLE, Int.reduceNeg, Int.reducePow, Nat.reduceLT, Nat.reduceLeDiff, tFor_eq, tyV_str, CDiv, tCallV, tDIn, tDNotIn, tDGet, iRev, tDNewK, sDPut, and_self, exists_prop, $xs,*])
set_option hygiene true
set_option compiler.extract_closed true
def top (i : Nat) : Stmt := PySem.Challenge.pw_pricecover_k41_fit.main.body.getD i (.Pass ⟨0, 0, 0, 0⟩)
structure Gs (w : World) (K : PySem.W.Frag) (mg : Str → Option Value) : Prop where
  m_all : mg "all" = none
  m_bool : mg "bool" = none
  m_int : mg "int" = none
  m_isinstance : mg "isinstance" = none
  m_len : mg "len" = none
  m_list : mg "list" = none
  m_min : mg "min" = none
  m_range : mg "range" = none
  m_str : mg "str" = none
  m_tuple : mg "tuple" = none
  m_PARTS_BELOW : ∃ a, mg "PARTS_BELOW" = some (.ref a) ∧ ModD w K a [(Sum.inr "add", .int 2), (Sum.inr "sub", .int 2), (Sum.inr "mul", .int 2), (Sum.inr "neg", .int 1)]
def spLaw (K : PySem.W.Frag) : Sp := fun vs H Q _ => ∃ (a : Addr) (ns : List Int), vs = [.ref a] ∧ SqL K H a (ns.map V.int) ∧ ns.length ≤ 63 ∧ ∀ H', Q (.bl true) H'
def spT : Sp := fun vs H Q _ => False
section
variable {P : Program} {w : World} {K : PySem.W.Frag} {mg : Str → Option Value} {base : Heap} {k : Nat}
abbrev sHow : Stmt := top 2
theorem scHow : FnScope ["word"] ["word"] (defScope sHow) := ⟨rfl, rfl, rfl, by decide +kernel, rfl, by decide +kernel, by decide +kernel⟩
theorem hasHow (G : Gs w K mg) (D : Def K mg "how_many_below" sHow ["word"]) : Has P w K mg base (k + 1) "how_many_below" ["word"] spHow := by
  refine D.has scHow (fun vs H Q E h => ?_) (fun f cdv A outer s H vs Q E hr h => ?_)
  · obtain ⟨_, rfl, _, _⟩ := h
    rfl
  have nd := scHow.nd
  have hu := hu_of hr
  have hu0 := Nat.lt_of_succ_lt hu
  obtain ⟨v, rfl, hw, q⟩ := h
  obtain ⟨a_PARTS_BELOW, m_PARTS_BELOW, s_PARTS_BELOW⟩ := G.m_PARTS_BELOW
  refine ⟨_, (@pss_one _ _ _ (@ps_ret _ _ _ _ (@pe_mget2 _ _ _ _ _ _ _ _ _ _ (@pe_gref _ _ _ _ m_PARTS_BELOW (by rfl) (by decide +kernel)) s_PARTS_BELOW (@pvD _ 0 _ _ (by rfl) (by first | exact Or.inl rfl | exact Or.inr (Or.inl rfl) | exact Or.inr (Or.inr rfl)) (by decide) (by decide)) (@pe_int _ _ _ _) (@M2.mk _ _ _ _ _ _ _ rfl rfl rfl rfl)))), ?_⟩
  rw [show start ["word"] [v] = [some (v)] from rfl]
  clear hu hu0 nd hr
  push_cast [tMGet2]
  obtain ⟨k, rfl⟩ := hw
  refine ⟨k, rfl, ?_⟩
  show Q ((valV parts k).getD (V.int 0)) H
  rw [val_parts]
  exact q
abbrev sBehind : Stmt := top 3
theorem scBehind : FnScope ["words", "place", "lacking", "at"] ["words", "place"] (defScope sBehind) := ⟨rfl, rfl, rfl, by decide +kernel, rfl, by decide +kernel, by decide +kernel⟩
theorem hasBehind (G : Gs w K mg) (h_how_many_below : Has P w K mg base k "how_many_below" ["word"] spHow) (D : Def K mg "place_behind" sBehind ["words", "place"]) : Has P w K mg base (k + 1) "place_behind" ["words", "place"] (spBehind K) := by
  refine D.has scBehind (fun vs H Q E h => ?_) (fun f cdv A outer s H vs Q E hr h => ?_)
  · obtain ⟨_, _, _, _, rfl, _, _, _, _, _⟩ := h
    rfl
  have nd := scBehind.nd
  have hu := hu_of hr
  have hu0 := Nat.lt_of_succ_lt hu
  obtain ⟨t, ws, p, n, rfl, hT, hw, hl, he, q⟩ := h
  refine ⟨_, (@pss_cons _ _ _ _ _ (@ps_set _ _ 2 _ _ _ _ nd rfl (by first | exact Or.inl rfl | exact Or.inr rfl) (@pe_int _ _ _ _) (by rfl) (by first | exact .inl rfl | exact .inr rfl | assumption)) (@pss_cons _ _ _ _ _ (@ps_set _ _ 3 _ _ _ _ nd rfl (by first | exact Or.inl rfl | exact Or.inr rfl) (@pvD _ 1 _ _ (by rfl) (by first | exact Or.inl rfl | exact Or.inr (Or.inl rfl) | exact Or.inr (Or.inr rfl)) (by decide) (by decide)) (by rfl) (by first | exact .inl rfl | exact .inr rfl | assumption)) (@pss_cons _ _ _ _ _ (@ps_while _ _ _ _ _ _ PassesOwn.never (@pt_cmpR _ _ _ _ _ _ _ _ (@op_gt _) (@pvD _ 2 _ _ (by rfl) (by first | exact Or.inl rfl | exact Or.inr (Or.inl rfl) | exact Or.inr (Or.inr rfl)) (by decide) (by decide)) (@pe_int _ _ _ _) (@nomark _ _ (by decide) (by decide))) (@pss_cons _ _ _ _ _ (@ps_set _ _ 2 _ _ _ _ nd rfl (by first | exact Or.inl rfl | exact Or.inr rfl) (@pe_op _ _ _ _ _ _ _ _ (@op_add _) (@pe_op _ _ _ _ _ _ _ _ (@op_sub _) (@pvD _ 2 _ _ (by rfl) (by first | exact Or.inl rfl | exact Or.inr (Or.inl rfl) | exact Or.inr (Or.inr rfl)) (by decide) (by decide)) (@pe_int _ _ _ _)) (@pe_has _ _ _ _ _ _ _ _ _ _ h_how_many_below hr (@pa_cons _ _ _ _ _ (@pe_ix _ _ _ _ _ _ _ (@ix_tup _) (@pvD _ 0 _ _ (by rfl) (by first | exact Or.inl rfl | exact Or.inr (Or.inl rfl) | exact Or.inr (Or.inr rfl)) (by decide) (by decide)) (@pvD _ 3 _ _ (by rfl) (by first | exact Or.inl rfl | exact Or.inr (Or.inl rfl) | exact Or.inr (Or.inr rfl)) (by decide) (by decide)) (fun _ _ => rfl)) (@pa_nil _) (by rfl)) (by rfl) (by decide +kernel) (by rfl) (by rfl))) (by rfl) (by first | exact .inl rfl | exact .inr rfl | assumption)) (@pss_one _ _ _ (@ps_set _ _ 3 _ _ _ _ nd rfl (by first | exact Or.inl rfl | exact Or.inr rfl) (@pe_op _ _ _ _ _ _ _ _ (@op_add _) (@pvD _ 3 _ _ (by rfl) (by first | exact Or.inl rfl | exact Or.inr (Or.inl rfl) | exact Or.inr (Or.inr rfl)) (by decide) (by decide)) (@pe_int _ _ _ _)) (by rfl) (by first | exact .inl rfl | exact .inr rfl | assumption))))) (@pss_one _ _ _ (@ps_ret _ _ _ _ (@pvD _ 3 _ _ (by rfl) (by first | exact Or.inl rfl | exact Or.inr (Or.inl rfl) | exact Or.inr (Or.inr rfl)) (by decide) (by decide))))))), ?_⟩
  rw [show start ["words", "place", "lacking", "at"] [.ref t, .int (p : Int)] = [some (.ref t), some (.int (p : Int)), none, none] from rfl]
  clear hu hu0 nd hr
  push_cast [spHow]
  have hn := eat_le _ _ _ he
  rw [List.length_map, List.length_drop] at hn
  refine while_by (fun σ H' => ∃ (d j : Nat), σ = [some (.ref t), some (.int (p : Int)), some (.int (d : Int)), some (.int ((p + j : Nat) : Int))] ∧ H' = H ∧ j ≤ n ∧ eat d ((ws.drop (p + j)).map arV) = some (n - j))
    (fun σ _ => p + n - intAt σ 3) ⟨1, 0, rfl, rfl, Nat.zero_le _, he⟩ ?_ ?_
  · rintro σ H' ⟨d, j, rfl, rfl, hj, hd⟩
    push_cast [spHow]
    refine ite2 (fun c => ?_) fun c => ?_
    · obtain ⟨d', rfl⟩ : ∃ d', d = d' + 1 := ⟨d - 1, by omega⟩
      have hpos := eat_pos _ _ _ hd
      have hlt : p + j < ws.length := by omega
      have ed : ws.drop (p + j) = ws[p + j] :: ws.drop (p + j + 1) := List.drop_eq_getElem_cons hlt
      rw [ed, List.map_cons, eat_cons] at hd
      obtain ⟨m, hm, em⟩ := Option.map_eq_some_iff.mp hd
      refine ⟨t, ws, ((p + j : Nat) : Int), ws[p + j], rfl, rfl, hT, atI_nat (List.getElem?_eq_getElem hlt), hw _ (List.getElem_mem hlt), ⟨d' + arV ws[p + j], by omega, j + 1, by omega, rfl, by omega, ?_⟩, ?_⟩
      · rw [show n - (j + 1) = m by omega]
        exact hm
      · show p + n - (((p + j : Nat) : Int) + 1).toNat < p + n - (((p + j : Nat) : Int)).toNat
        omega
    · have d0 : d = 0 := by omega
      subst d0
      rw [eat_zero] at hd
      have : n - j = 0 := (Option.some.inj hd).symm
      have e : ((p + j : Nat) : Int) = (p : Int) + (n : Int) := by omega
      rw [e]
      exact q H' (Same.refl _)
  · intro σ H' Q1 Q2 hq h
    simp only [tTest, tOp, rI0, tVarD_any, tC] at h ⊢
    obtain ⟨v, hv, i, j, e1, e2, k, e3, h⟩ := h
    exact ⟨v, hv, i, j, e1, e2, k, e3, hq _ _ h⟩
abbrev sLeaf : Stmt := top 5
theorem scLeaf : FnScope ["word", "kinds"] ["word", "kinds"] (defScope sLeaf) := ⟨rfl, rfl, rfl, by decide +kernel, rfl, by decide +kernel, by decide +kernel⟩
theorem hasLeaf (G : Gs w K mg) (D : Def K mg "leaf_letter" sLeaf ["word", "kinds"]) : Has P w K mg base (k + 1) "leaf_letter" ["word", "kinds"] (spLeaf K) := by
  refine D.has scLeaf (fun vs H Q E h => ?_) (fun f cdv A outer s H vs Q E hr h => ?_)
  · obtain ⟨_, _, _, rfl, _, _, _⟩ := h
    rfl
  have nd := scLeaf.nd
  have hu := hu_of hr
  have hu0 := Nat.lt_of_succ_lt hu
  obtain ⟨v, kt, kinds, rfl, hv, hK, q⟩ := h
  refine ⟨_, (@pss_cons _ _ _ _ _ (@ps_if _ _ _ _ _ _ _ _ (@pt_cmpR _ _ _ _ _ _ _ _ (@op_eq _) (@pvD _ 0 _ _ (by rfl) (by first | exact Or.inl rfl | exact Or.inr (Or.inl rfl) | exact Or.inr (Or.inr rfl)) (by decide) (by decide)) (@pe_str _ _ _ _) (@nomark _ _ (by decide) (by decide))) (@pss_one _ _ _ (@ps_ret _ _ _ _ (@pe_str _ _ _ _))) (@pss_nil _)) (@pss_cons _ _ _ _ _ (@ps_if _ _ _ _ _ _ _ _ (@pt_cmpR _ _ _ _ _ _ _ _ (@op_eq _) (@pvD _ 0 _ _ (by rfl) (by first | exact Or.inl rfl | exact Or.inr (Or.inl rfl) | exact Or.inr (Or.inr rfl)) (by decide) (by decide)) (@pe_str _ _ _ _) (@nomark _ _ (by decide) (by decide))) (@pss_one _ _ _ (@ps_ret _ _ _ _ (@pe_str _ _ _ _))) (@pss_nil _)) (@pss_one _ _ _ (@ps_ret _ _ _ _ (@pe_ifExp _ _ _ _ _ _ _ _ (@pt_cmpR _ _ _ _ _ _ _ _ (@op_in_seq _) (@pvD _ 0 _ _ (by rfl) (by first | exact Or.inl rfl | exact Or.inr (Or.inl rfl) | exact Or.inr (Or.inr rfl)) (by decide) (by decide)) (@pvD _ 1 _ _ (by rfl) (by first | exact Or.inl rfl | exact Or.inr (Or.inl rfl) | exact Or.inr (Or.inr rfl)) (by decide) (by decide)) (by with_unfolding_all rfl)) (@pe_str _ _ _ _) (@pe_str _ _ _ _)))))), ?_⟩
  rw [show start ["word", "kinds"] [v, .ref kt] = [some (v), some (.ref kt)] from rfl]
  clear hu hu0 nd hr
  push_cast [rIn]
  have fl : (kinds.map V.str).all flatV = true := List.all_eq_true.mpr fun x hx => by obtain ⟨z, _, rfl⟩ := List.mem_map.mp hx; rfl
  unfold letW anyW varW lN lV lH lO at q
  refine ⟨hv.sc _, ite2 (fun e => ?_) fun n1 => ⟨hv.sc _, ite2 (fun e => ?_) fun n2 => ⟨_, .inr hK, hv.flat, fl, ite2 (fun e => ?_) fun e => ?_⟩⟩⟩
  · rw [if_pos e] at q
    exact q
  · rw [if_neg n1, if_pos e] at q
    exact q
  · rw [if_neg n1, if_neg n2, if_pos e] at q
    exact q
  · rw [if_neg n1, if_neg n2, if_neg e] at q
    exact q
abbrev sLies : Stmt := top 7
theorem scLies : FnScope ["letter", "shape_word", "word"] ["letter", "shape_word", "word"] (defScope sLies) := ⟨rfl, rfl, rfl, by decide +kernel, rfl, by decide +kernel, by decide +kernel⟩
theorem hasLies (G : Gs w K mg) (h_how_many_below : Has P w K mg base k "how_many_below" ["word"] spHow) (D : Def K mg "lies_upon" sLies ["letter", "shape_word", "word"]) : Has P w K mg base (k + 1) "lies_upon" ["letter", "shape_word", "word"] spLies := by
  refine D.has scLies (fun vs H Q E h => ?_) (fun f cdv A outer s H vs Q E hr h => ?_)
  · obtain ⟨_, _, _, rfl, _, _, _⟩ := h
    rfl
  have nd := scLies.nd
  have hu := hu_of hr
  have hu0 := Nat.lt_of_succ_lt hu
  obtain ⟨l, v, x, rfl, hv, hx, q⟩ := h
  have m_isinstance := G.m_isinstance
  have m_str := G.m_str
  refine ⟨_, (@pss_cons _ _ _ _ _ (@ps_if _ _ _ _ _ _ _ _ (@pt_cmpR _ _ _ _ _ _ _ _ (@op_eq _) (@pvD _ 0 _ _ (by rfl) (by first | exact Or.inl rfl | exact Or.inr (Or.inl rfl) | exact Or.inr (Or.inr rfl)) (by decide) (by decide)) (@pe_str _ _ _ _) (@nomark _ _ (by decide) (by decide))) (@pss_one _ _ _ (@ps_ret _ _ _ _ (@pe_bl _ _ _ _))) (@pss_nil _)) (@pss_cons _ _ _ _ _ (@ps_if _ _ _ _ _ _ _ _ (@pt_cmpR _ _ _ _ _ _ _ _ (@op_eq _) (@pvD _ 0 _ _ (by rfl) (by first | exact Or.inl rfl | exact Or.inr (Or.inl rfl) | exact Or.inr (Or.inr rfl)) (by decide) (by decide)) (@pe_str _ _ _ _) (@nomark _ _ (by decide) (by decide))) (@pss_one _ _ _ (@ps_ret _ _ _ _ (@pe_not _ _ _ _ (@pe_callB _ _ _ _ _ _ _ _ _ (@call_isinst _) rfl m_isinstance b_isinstance (@pa_cons _ _ _ _ _ (@pvD _ 2 _ _ (by rfl) (by first | exact Or.inl rfl | exact Or.inr (Or.inl rfl) | exact Or.inr (Or.inr rfl)) (by decide) (by decide)) (@pa_cons _ _ _ _ _ (@pe_gty _ _ _ _ m_str b_str (by rfl) (by decide +kernel) (by decide +kernel)) (@pa_nil _) (by rfl)) (by rfl)) (by decide) (by decide) (by rfl) (by rfl))))) (@pss_nil _)) (@pss_cons _ _ _ _ _ (@ps_if _ _ _ _ _ _ _ _ (@pt_cmpR _ _ _ _ _ _ _ _ (@op_eq _) (@pvD _ 0 _ _ (by rfl) (by first | exact Or.inl rfl | exact Or.inr (Or.inl rfl) | exact Or.inr (Or.inr rfl)) (by decide) (by decide)) (@pe_str _ _ _ _) (@nomark _ _ (by decide) (by decide))) (@pss_one _ _ _ (@ps_ret _ _ _ _ (@pe_and _ _ _ _ _ _ _ (@pe_callB _ _ _ _ _ _ _ _ _ (@call_isinst _) rfl m_isinstance b_isinstance (@pa_cons _ _ _ _ _ (@pvD _ 2 _ _ (by rfl) (by first | exact Or.inl rfl | exact Or.inr (Or.inl rfl) | exact Or.inr (Or.inr rfl)) (by decide) (by decide)) (@pa_cons _ _ _ _ _ (@pe_gty _ _ _ _ m_str b_str (by rfl) (by decide +kernel) (by decide +kernel)) (@pa_nil _) (by rfl)) (by rfl)) (by decide) (by decide) (by rfl) (by rfl)) (@pe_one _ _ _ _ _ (@pe_cmpR _ _ _ _ _ _ _ _ (@op_eq _) (@pe_has _ _ _ _ _ _ _ _ _ _ h_how_many_below hr (@pa_cons _ _ _ _ _ (@pvD _ 2 _ _ (by rfl) (by first | exact Or.inl rfl | exact Or.inr (Or.inl rfl) | exact Or.inr (Or.inr rfl)) (by decide) (by decide)) (@pa_nil _) (by rfl)) (by rfl) (by decide +kernel) (by rfl) (by rfl)) (@pe_int _ _ _ _) (@nomark _ _ (by decide) (by decide))))))) (@pss_nil _)) (@pss_one _ _ _ (@ps_ret _ _ _ _ (@pe_cmpR _ _ _ _ _ _ _ _ (@op_eq _) (@pvD _ 1 _ _ (by rfl) (by first | exact Or.inl rfl | exact Or.inr (Or.inl rfl) | exact Or.inr (Or.inr rfl)) (by decide) (by decide)) (@pvD _ 2 _ _ (by rfl) (by first | exact Or.inl rfl | exact Or.inr (Or.inl rfl) | exact Or.inr (Or.inr rfl)) (by decide) (by decide)) (@nomark _ _ (by decide) (by decide)))))))), ?_⟩
  rw [show start ["letter", "shape_word", "word"] [.str l, v, x] = [some (.str l), some (v), some (x)] from rfl]
  clear hu hu0 nd hr
  push_cast [spHow]
  unfold lies lH lN lV at q
  refine ⟨rfl, ite2 (fun e => ?_) fun n1 => ⟨rfl, ite2 (fun e => ?_) fun n2 => ⟨rfl, ite2 (fun e => ?_) fun n3 => ⟨hv.sc2 hx, ?_⟩⟩⟩⟩
  · rw [if_pos e] at q
    exact q
  · rw [if_neg n1, if_pos e] at q
    obtain ⟨k', rfl⟩ := hx
    cases k' with
    | inl i => exact ⟨_, .int i, false, rfl, q⟩
    | inr z => exact ⟨_, .str z, true, rfl, q⟩
  · rw [if_neg n1, if_neg n2, if_pos e] at q
    have hx' := hx
    obtain ⟨k', rfl⟩ := hx
    cases k' with
    | inl i => exact ⟨_, .int i, false, rfl, iteF q⟩
    | inr z =>
      refine ⟨_, .str z, true, rfl, iteT ⟨hx', rfl, ?_⟩⟩
      rw [show decide (((arV (kV (Sum.inr z)) : Nat) : Int) = 0) = decide (arV (kV (Sum.inr z)) = 0) from decide_eq_decide.mpr (by omega)]
      exact q
  · rw [if_neg n1, if_neg n2, if_neg n3] at q
    exact q
abbrev sLaid : Stmt := top 8
theorem scLaid : FnScope ["shape", "kinds", "words", "place", "under", "at", "shape_word", "letter"] ["shape", "kinds", "words", "place"] (defScope sLaid) := ⟨rfl, rfl, rfl, by decide +kernel, rfl, by decide +kernel, by decide +kernel⟩
theorem hasLaid (G : Gs w K mg) (h_leaf_letter : Has P w K mg base k "leaf_letter" ["word", "kinds"] (spLeaf K)) (h_lies_upon : Has P w K mg base k "lies_upon" ["letter", "shape_word", "word"] spLies) (h_place_behind : Has P w K mg base k "place_behind" ["words", "place"] (spBehind K)) (D : Def K mg "laid" sLaid ["shape", "kinds", "words", "place"]) : Has P w K mg base (k + 1) "laid" ["shape", "kinds", "words", "place"] (spLaid K) := by
  refine D.has scLaid (fun vs H Q E h => ?_) (fun f cdv A outer s H vs Q E hr h => ?_)
  · obtain ⟨_, _, _, _, _, _, _, _, rfl, _, _, _, _, _, _, _, _, _, _, _⟩ := h
    rfl
  have nd := scLaid.nd
  have hu := hu_of hr
  have hu0 := Nat.lt_of_succ_lt hu
  obtain ⟨st, kt, wt, sh, kinds, ws, p, n, rfl, hS, hK, hW, hk, hs, hw, hTm, he, hl1, hl2, q⟩ := h
  have m_tuple := G.m_tuple
  refine ⟨_, (@pss_cons _ _ _ _ _ (@ps_set _ _ 4 _ _ _ _ nd rfl (by first | exact Or.inl rfl | exact Or.inr rfl) (@pe_disp _ _ _ _ _ (@pps_cons _ _ _ _ _ _ _ _ _ (@pe_str _ _ _ _) (@pe_lst _ _ _ _ (@pa_nil _)) (@pps_cons _ _ _ _ _ _ _ _ _ (@pe_str _ _ _ _) (@pe_lst _ _ _ _ (@pa_nil _)) (@pps_cons _ _ _ _ _ _ _ _ _ (@pe_str _ _ _ _) (@pe_lst _ _ _ _ (@pa_nil _)) (@pps_nil _ _)))) rfl rfl (fun e => nomatch e) (by decide)) (by rfl) (by first | exact .inl rfl | exact .inr rfl | assumption)) (@pss_cons _ _ _ _ _ (@ps_set _ _ 5 _ _ _ _ nd rfl (by first | exact Or.inl rfl | exact Or.inr rfl) (@pvD _ 3 _ _ (by rfl) (by first | exact Or.inl rfl | exact Or.inr (Or.inl rfl) | exact Or.inr (Or.inr rfl)) (by decide) (by decide)) (by rfl) (by first | exact .inl rfl | exact .inr rfl | assumption)) (@pss_cons _ _ _ _ _ (@ps_for _ _ _ _ _ _ _ _ PassesOwn.never rfl (@pi_tup _ _ _ _ (@pvD _ 0 _ _ (by rfl) (by first | exact Or.inl rfl | exact Or.inr (Or.inl rfl) | exact Or.inr (Or.inr rfl)) (by decide) (by decide))) (@pg_name _ _ 6 _ nd rfl (by first | exact Or.inl rfl | exact Or.inr rfl) (by first | exact .inl rfl | exact .inr rfl | assumption)) (@pss_cons _ _ _ _ _ (@ps_set _ _ 7 _ _ _ _ nd rfl (by first | exact Or.inl rfl | exact Or.inr rfl) (@pe_has _ _ _ _ _ _ _ _ _ _ h_leaf_letter hr (@pa_cons _ _ _ _ _ (@pvD _ 6 _ _ (by rfl) (by first | exact Or.inl rfl | exact Or.inr (Or.inl rfl) | exact Or.inr (Or.inr rfl)) (by decide) (by decide)) (@pa_cons _ _ _ _ _ (@pvD _ 1 _ _ (by rfl) (by first | exact Or.inl rfl | exact Or.inr (Or.inl rfl) | exact Or.inr (Or.inr rfl)) (by decide) (by decide)) (@pa_nil _) (by rfl)) (by rfl)) (by rfl) (by decide +kernel) (by rfl) (by rfl)) (by rfl) (by first | exact .inl rfl | exact .inr rfl | assumption)) (@pss_cons _ _ _ _ _ (@ps_if _ _ _ _ _ _ _ _ (@pt_not _ _ _ _ (@pt_val _ _ _ (@pe_has _ _ _ _ _ _ _ _ _ _ h_lies_upon hr (@pa_cons _ _ _ _ _ (@pvD _ 7 _ _ (by rfl) (by first | exact Or.inl rfl | exact Or.inr (Or.inl rfl) | exact Or.inr (Or.inr rfl)) (by decide) (by decide)) (@pa_cons _ _ _ _ _ (@pvD _ 6 _ _ (by rfl) (by first | exact Or.inl rfl | exact Or.inr (Or.inl rfl) | exact Or.inr (Or.inr rfl)) (by decide) (by decide)) (@pa_cons _ _ _ _ _ (@pe_ix _ _ _ _ _ _ _ (@ix_tup _) (@pvD _ 2 _ _ (by rfl) (by first | exact Or.inl rfl | exact Or.inr (Or.inl rfl) | exact Or.inr (Or.inr rfl)) (by decide) (by decide)) (@pvD _ 5 _ _ (by rfl) (by first | exact Or.inl rfl | exact Or.inr (Or.inl rfl) | exact Or.inr (Or.inr rfl)) (by decide) (by decide)) (fun _ _ => rfl)) (@pa_nil _) (by rfl)) (by rfl)) (by rfl)) (by rfl) (by decide +kernel) (by rfl) (by rfl)) (by intro _; rfl))) (@pss_one _ _ _ (@ps_ret _ _ _ _ (@pe_non _ _ _))) (@pss_nil _)) (@pss_mid _ _ _ _ _ (@ps_if _ _ _ _ _ _ _ _ (@pt_cmpR _ _ _ _ _ _ _ _ (@op_ne _) (@pvD _ 7 _ _ (by rfl) (by first | exact Or.inl rfl | exact Or.inr (Or.inl rfl) | exact Or.inr (Or.inr rfl)) (by decide) (by decide)) (@pe_str _ _ _ _) (@nomark _ _ (by decide) (by decide))) (@pss_one _ _ _ (@ps_expr _ _ _ _ (@pe_bm _ _ _ _ _ _ _ _ _ _ _ _ PySem.F.plainAttrs_list PySem.F.slot_list_append PySem.F.type_list_append (@mt_append _) (@pe_dget _ _ _ _ _ _ hu (@pvD _ 4 _ _ (by rfl) (by first | exact Or.inl rfl | exact Or.inr (Or.inl rfl) | exact Or.inr (Or.inr rfl)) (by decide) (by decide)) (@pvD _ 7 _ _ (by rfl) (by first | exact Or.inl rfl | exact Or.inr (Or.inl rfl) | exact Or.inr (Or.inr rfl)) (by decide) (by decide)) (fun _ _ => rfl)) (@pa_cons _ _ _ _ _ (@pe_ifExp _ _ _ _ _ _ _ _ (@pt_cmpR _ _ _ _ _ _ _ _ (@op_eq _) (@pvD _ 7 _ _ (by rfl) (by first | exact Or.inl rfl | exact Or.inr (Or.inl rfl) | exact Or.inr (Or.inr rfl)) (by decide) (by decide)) (@pe_str _ _ _ _) (@nomark _ _ (by decide) (by decide))) (@pvD _ 5 _ _ (by rfl) (by first | exact Or.inl rfl | exact Or.inr (Or.inl rfl) | exact Or.inr (Or.inr rfl)) (by decide) (by decide)) (@pe_ix _ _ _ _ _ _ _ (@ix_tup _) (@pvD _ 2 _ _ (by rfl) (by first | exact Or.inl rfl | exact Or.inr (Or.inl rfl) | exact Or.inr (Or.inr rfl)) (by decide) (by decide)) (@pvD _ 5 _ _ (by rfl) (by first | exact Or.inl rfl | exact Or.inr (Or.inl rfl) | exact Or.inr (Or.inr rfl)) (by decide) (by decide)) (fun _ _ => rfl))) (@pa_nil _) (by rfl)) (by rfl) (by rfl) (by rfl) (by rfl) (by rfl)) (by rfl))) (@pss_nil _)) (@pss_one _ _ _ (@ps_set _ _ 5 _ _ _ _ nd rfl (by first | exact Or.inl rfl | exact Or.inr rfl) (@pe_ifExp _ _ _ _ _ _ _ _ (@pt_cmpR _ _ _ _ _ _ _ _ (@op_eq _) (@pvD _ 7 _ _ (by rfl) (by first | exact Or.inl rfl | exact Or.inr (Or.inl rfl) | exact Or.inr (Or.inr rfl)) (by decide) (by decide)) (@pe_str _ _ _ _) (@nomark _ _ (by decide) (by decide))) (@pe_has _ _ _ _ _ _ _ _ _ _ h_place_behind hr (@pa_cons _ _ _ _ _ (@pvD _ 2 _ _ (by rfl) (by first | exact Or.inl rfl | exact Or.inr (Or.inl rfl) | exact Or.inr (Or.inr rfl)) (by decide) (by decide)) (@pa_cons _ _ _ _ _ (@pvD _ 5 _ _ (by rfl) (by first | exact Or.inl rfl | exact Or.inr (Or.inl rfl) | exact Or.inr (Or.inr rfl)) (by decide) (by decide)) (@pa_nil _) (by rfl)) (by rfl)) (by rfl) (by decide +kernel) (by rfl) (by rfl)) (@pe_op _ _ _ _ _ _ _ _ (@op_add _) (@pvD _ 5 _ _ (by rfl) (by first | exact Or.inl rfl | exact Or.inr (Or.inl rfl) | exact Or.inr (Or.inr rfl)) (by decide) (by decide)) (@pe_int _ _ _ _))) (by rfl) (by first | exact .inl rfl | exact .inr rfl | assumption)))))) (by intro _; rfl)) (@pss_one _ _ _ (@ps_ret _ _ _ _ (@pe_tup _ _ _ _ _ (@pa_cons _ _ _ _ _ (@pe_callTy _ _ _ _ _ _ _ _ _ (@call_tuple_of _) rfl m_tuple b_tuple (@pa_cons _ _ _ _ _ (@pe_dget _ _ _ _ _ _ hu (@pvD _ 4 _ _ (by rfl) (by first | exact Or.inl rfl | exact Or.inr (Or.inl rfl) | exact Or.inr (Or.inr rfl)) (by decide) (by decide)) (@pe_str _ _ _ _) (fun _ _ => rfl)) (@pa_nil _) (by rfl)) (by decide) (by decide) (by rfl) (by rfl)) (@pa_cons _ _ _ _ _ (@pe_callTy _ _ _ _ _ _ _ _ _ (@call_tuple_of _) rfl m_tuple b_tuple (@pa_cons _ _ _ _ _ (@pe_dget _ _ _ _ _ _ hu (@pvD _ 4 _ _ (by rfl) (by first | exact Or.inl rfl | exact Or.inr (Or.inl rfl) | exact Or.inr (Or.inr rfl)) (by decide) (by decide)) (@pe_str _ _ _ _) (fun _ _ => rfl)) (@pa_nil _) (by rfl)) (by decide) (by decide) (by rfl) (by rfl)) (@pa_cons _ _ _ _ _ (@pe_callTy _ _ _ _ _ _ _ _ _ (@call_tuple_of _) rfl m_tuple b_tuple (@pa_cons _ _ _ _ _ (@pe_dget _ _ _ _ _ _ hu (@pvD _ 4 _ _ (by rfl) (by first | exact Or.inl rfl | exact Or.inr (Or.inl rfl) | exact Or.inr (Or.inr rfl)) (by decide) (by decide)) (@pe_str _ _ _ _) (fun _ _ => rfl)) (@pa_nil _) (by rfl)) (by decide) (by decide) (by rfl) (by rfl)) (@pa_nil _) (by rfl)) (by rfl)) (by rfl)))))))), ?_⟩
  rw [show start ["shape", "kinds", "words", "place", "under", "at", "shape_word", "letter"] [.ref st, .ref kt, .ref wt, .int (p : Int)] = [some (.ref st), some (.ref kt), some (.ref wt), some (.int (p : Int)), none, none, none, none] from rfl]
  clear hu hu0 nd hr
  push_cast [spLeaf, spLies, spBehind, tDisp, tPairs]
  have sz := sizeLine_eq
  refine fun u0 h0 => ⟨Nat.zero_le _, fun l1 h1 => ⟨Nat.zero_le _, fun l2 h2 => ⟨Nat.zero_le _, fun l3 h3 => ⟨same_new h3 _ _ _ (same_new h2 _ _ _ (same_new h1 _ _ _ upd_same)), [(Sum.inr lH, .ref l1), (Sum.inr lN, .ref l2), (Sum.inr lV, .ref l3)], rfl, by show (3 : Nat) ≤ 15; decide, ?_⟩⟩⟩⟩
  rw [show mergeK [] [(Sum.inr lH, V.ref l1), (Sum.inr lN, V.ref l2), (Sum.inr lV, V.ref l3)] = [(Sum.inr lH, V.ref l1), (Sum.inr lN, V.ref l2), (Sum.inr lV, V.ref l3)] from rfl]
  have n10 : l1 ≠ u0 := (ne_of_none upd_same h1).symm
  have n20 : l2 ≠ u0 := (ne_of_none (same_new h1 _ _ _ upd_same) h2).symm
  have n30 : l3 ≠ u0 := (ne_of_none (same_new h2 _ _ _ (same_new h1 _ _ _ upd_same)) h3).symm
  have n21 : l2 ≠ l1 := (ne_of_none upd_same h2).symm
  have n31 : l3 ≠ l1 := (ne_of_none (same_new h2 _ _ _ upd_same) h3).symm
  have n32 : l3 ≠ l2 := (ne_of_none upd_same h3).symm
  have S1 := same_new h0 (.dK [])
  have f1 := S1.free h1
  have S2 := S1.trans (same_new h1 (.lst []))
  have f2 := S2.free h2
  have S3 := S2.trans (same_new h2 (.lst []))
  have f3 := S3.free h3
  have S4 := (S3.trans (same_new h3 (.lst []))).upd h0 (.dK [(Sum.inr lH, V.ref l1), (Sum.inr lN, V.ref l2), (Sum.inr lV, V.ref l3)])
  have U4 : UAt (upd (upd (upd (upd (upd H u0 (.dK [])) l1 (.lst [])) l2 (.lst [])) l3 (.lst [])) u0 (.dK [(Sum.inr lH, V.ref l1), (Sum.inr lN, V.ref l2), (Sum.inr lV, V.ref l3)])) u0 l1 l2 l3 ⟨[], [], []⟩ :=
    ⟨upd_same, by rw [upd_ne n10, upd_ne n31.symm, upd_ne n21.symm, upd_same]; rfl, by rw [upd_ne n20, upd_ne n32.symm, upd_same], by rw [upd_ne n30, upd_same]⟩
  generalize upd (upd (upd (upd (upd H u0 (.dK [])) l1 (.lst [])) l2 (.lst [])) l3 (.lst [])) u0 (.dK [(Sum.inr lH, V.ref l1), (Sum.inr lN, V.ref l2), (Sum.inr lV, V.ref l3)]) = H4 at S4 U4 ⊢
  refine ⟨⟨sh, S4.tup hS⟩, forW_tup (xs := sh) (fun i σ H' => ∃ (q' : Nat) (u : Und) (v6 v7 : Option V), σ = [some (.ref st), some (.ref kt), some (.ref wt), some (.int (p : Int)), some (.ref u0), some (.int (q' : Int)), v6, v7] ∧ Same H H' ∧ UAt H' u0 l1 l2 l3 u ∧ laidF kinds ws (sh.drop i) q' u = laidF kinds ws sh p ⟨[], [], []⟩ ∧ (u.hs.length ≤ i ∧ u.ns.length ≤ i ∧ u.vs.length ≤ i) ∧ UndW u ∧ ∃ d m, pend d ((sh.drop i).map arV) = some 0 ∧ eat d ((ws.drop q').map arV) = some m)
    ⟨p, ⟨[], [], []⟩, none, none, rfl, S4, U4, rfl, ⟨Nat.zero_le _, Nat.zero_le _, Nat.zero_le _⟩, ⟨(fun _ h => nomatch h), (fun _ h => nomatch h)⟩, 1, n, hTm, he⟩ (fun i σ H' _ h => by obtain ⟨_, _, _, _, _, s, _⟩ := h; exact s.tup hS) ?_ ?_⟩
  · rintro i v σ H5 hvi ⟨q', u, v6, v7, rfl, s5, U5, e5, hul, huw, d, m, hp5, he5⟩
    have hil : i < sh.length := (List.getElem?_eq_some_iff.mp hvi).1
    have ed : sh.drop i = v :: sh.drop (i + 1) := by
      rw [List.drop_eq_getElem_cons hil]
      congr 1
      rw [List.getElem?_eq_getElem hil] at hvi
      exact Option.some.inj hvi
    rw [ed] at e5 hp5
    obtain ⟨d', rfl⟩ : ∃ d', d = d' + 1 := by
      cases d with
      | zero => cases hp5
      | succ d' => exact ⟨d', rfl⟩
    have hq : q' < ws.length := by
      have a1 := eat_pos _ _ _ he5
      have a2 := eat_le _ _ _ he5
      rw [List.length_map, List.length_drop] at a2
      omega
    have hx : ws[q']? = some ws[q'] := List.getElem?_eq_getElem hq
    have hxw := hw _ (List.getElem_mem hq)
    have hat : atI ws (q' : Int) = some ws[q'] := atI_nat hx
    have hvw := hs v (List.mem_of_getElem? hvi)
    have hgd : ws.getD q' .non = ws[q'] := by rw [List.getD_eq_getElem?_getD, hx]; rfl
    rw [laidF_cons, hgd] at e5
    generalize ws[q'] = x at hx hxw hat hgd e5
    push_cast [spLeaf, spLies]
    refine ⟨hvw, kinds, s5.tup hK, wt, ws, (q' : Int), x, rfl, rfl, s5.tup hW, hat, hvw, hxw, ?_⟩
    cases hli : lies (letW kinds v) v x with
    | false =>
      rw [hli, if_neg (by decide)] at e5
      rw [if_pos (show (!false) = true from rfl)]
      have z := q H5 s5
      rw [← e5] at z
      exact z
    | true =>
      rw [hli, if_pos rfl] at e5
      rw [if_neg (show ¬ (!true) = true by decide)]
      obtain ⟨d2, m2, hp6, he6⟩ := laid_step hk hvw hx hxw hp5 he5 hli
      have hul' := u.put_len (letW kinds v) q' x hul
      have huw' := huw.put hxw (letW kinds v) q'
      obtain ⟨b1, b2, b3, b4, b5, b6⟩ := lets
      refine tMid_of (fun σ' H6 => σ' = [some (.ref st), some (.ref kt), some (.ref wt), some (.int (p : Int)), some (.ref u0), some (.int (q' : Int)), some v, some (.str (letW kinds v))] ∧ Same H H6 ∧ UAt H6 u0 l1 l2 l3 (u.put (letW kinds v) q' x)) ?_ ?_
      · push_cast [and_true]
        refine ⟨rfl, ?_⟩
        rcases letW_cases (kinds := kinds) hvw with ⟨_, h⟩ | ⟨_, h⟩ | ⟨_, h⟩ | ⟨h, _⟩
        · rw [h, if_pos (by decide +kernel)]
          refine ⟨_, U5.get2, tyV_list U5.2.2.1, rfl, ?_⟩
          rw [if_neg (show ¬ lN = Str.ofString "h" from b1)]
          exact ⟨wt, ws, _, x, rfl, rfl, s5.tup hW, hat, (append_ok (K := K) U5.2.2.1 (by omega) ⟨s5.upd f2 _, U5.put2 n20 n21 n32 q' x⟩).2⟩
        · rw [h, if_pos (by decide +kernel)]
          refine ⟨_, U5.get3, tyV_list U5.2.2.2, rfl, ?_⟩
          rw [if_neg (show ¬ lV = Str.ofString "h" from b2)]
          exact ⟨wt, ws, _, x, rfl, rfl, s5.tup hW, hat, (append_ok (K := K) U5.2.2.2 (by omega) ⟨s5.upd f3 _, U5.put3 n30 n31 n32 q' x⟩).2⟩
        · rw [h, if_pos (by decide +kernel)]
          refine ⟨_, U5.get1, tyV_list U5.2.1, rfl, ?_⟩
          rw [if_pos (show lH = Str.ofString "h" from rfl)]
          exact (append_ok (K := K) U5.2.1 (by rw [List.length_map]; omega) ⟨s5.upd f1 _, U5.put1 n10 n21 n31 q' x⟩).2
        · rw [h, if_neg (by decide +kernel), u.put0]
          exact ⟨s5, U5⟩
      · rintro _ H6 ⟨rfl, s6, U6⟩
        push_cast [spBehind]
        refine ⟨rfl, ite2 (fun hH => ?_) fun hH => ?_⟩
        · have hH : letW kinds v = lH := hH
          rw [if_pos hH] at e5 he6
          obtain ⟨n1, hn1⟩ := eat_one he5
          have en : endAt ws q' = q' + n1 := by unfold endAt; rw [hn1]; rfl
          rw [en] at e5 he6
          exact ⟨ws, q', rfl, s6.tup hW, hw, by omega, n1, hn1, fun H7 s7 => ⟨q' + n1, by omega, s6.trans s7, _, U6.same s7, e5, hul'.1, hul'.2.1, hul'.2.2, huw', d2, hp6, m2, he6⟩⟩
        · have hH : ¬ letW kinds v = lH := hH
          rw [if_neg hH] at e5 he6
          exact ⟨q' + 1, by omega, s6, _, U6, e5, hul'.1, hul'.2.1, hul'.2.2, huw', d2, hp6, m2, he6⟩
  · rintro σ H5 ⟨q', u, v6, v7, rfl, s5, U5, e5, hul, huw, d, m, hp5, he5⟩
    rw [List.drop_length] at e5
    have z := q H5 s5
    rw [← e5] at z
    push_cast [and_true]
    refine ⟨_, U5.get1, l1, rfl, _, .inl ⟨SqL.of U5.2.1, fun t1 ht1 => ?_⟩⟩
    have U6 := U5.same (same_new ht1 (.tup (u.hs.map plV)))
    refine ⟨_, U6.get2, l2, rfl, _, .inl ⟨SqL.of U6.2.2.1, fun t2 ht2 => ?_⟩⟩
    have U7 := U6.same (same_new ht2 (.tup u.ns))
    refine ⟨_, U7.get3, l3, rfl, _, .inl ⟨SqL.of U7.2.2.2, fun t3 ht3 => ⟨by show (3 : Nat) ≤ sizeLine; decide, fun t ht => ?_⟩⟩⟩
    exact z t _ ((same_new ht1 _).trans ((same_new ht2 _).trans ((same_new ht3 _).trans (same_new ht _)))) ⟨t1, t2, t3, upd_same, same_new ht _ _ _ (same_new ht3 _ _ _ (same_new ht2 _ _ _ upd_same)), same_new ht _ _ _ (same_new ht3 _ _ _ upd_same), same_new ht _ _ _ upd_same⟩ ⟨⟨huw.1, by omega⟩, ⟨huw.2, by omega⟩, by omega⟩
abbrev sFit : Stmt := top 9
theorem scFit : FnScope ["book", "rule", "words", "place", "name", "kind", "price", "shape", "deeds"] ["book", "rule", "words", "place"] (defScope sFit) := ⟨rfl, rfl, rfl, by decide +kernel, rfl, by decide +kernel, by decide +kernel⟩
theorem hasFit (G : Gs w K mg) (h_laid : Has P w K mg base k "laid" ["shape", "kinds", "words", "place"] (spLaid K)) (D : Def K mg "fit" sFit ["book", "rule", "words", "place"]) : Has P w K mg base (k + 1) "fit" ["book", "rule", "words", "place"] spFit := by
  refine D.has scFit (fun vs H Q E h => ?_) (fun f cdv A outer s H vs Q E hr h => ?_)
  · obtain ⟨_, _, _, _, _, _, _, _, rfl, _, _, _, _, _, _, _⟩ := h
    rfl
  have nd := scFit.nd
  have hu := hu_of hr
  have hu0 := Nat.lt_of_succ_lt hu
  obtain ⟨b, wt, kinds, rs, ws, p, i, r, rfl, hB, hW, bk, tw, hp, hri, q⟩ := h
  refine ⟨_, (@pss_cons _ _ _ _ _ (@ps_for _ _ _ _ _ _ _ _ PassesOwn.never rfl (@pi_tup _ _ _ _ (@pe_ix _ _ _ _ _ _ _ (@ix_tup _) (@pvD _ 0 _ _ (by rfl) (by first | exact Or.inl rfl | exact Or.inr (Or.inl rfl) | exact Or.inr (Or.inr rfl)) (by decide) (by decide)) (@pe_int _ _ _ _) (fun _ _ => rfl))) (@pg_tup _ _ _ _ _ _ rfl (@pgs_cons _ _ _ _ _ (@pg_name _ _ 4 _ nd rfl (by first | exact Or.inl rfl | exact Or.inr rfl) (by first | exact .inl rfl | exact .inr rfl | assumption)) (@pgs_cons _ _ _ _ _ (@pg_name _ _ 5 _ nd rfl (by first | exact Or.inl rfl | exact Or.inr rfl) (by first | exact .inl rfl | exact .inr rfl | assumption)) (@pgs_cons _ _ _ _ _ (@pg_name _ _ 6 _ nd rfl (by first | exact Or.inl rfl | exact Or.inr rfl) (by first | exact .inl rfl | exact .inr rfl | assumption)) (@pgs_cons _ _ _ _ _ (@pg_name _ _ 7 _ nd rfl (by first | exact Or.inl rfl | exact Or.inr rfl) (by first | exact .inl rfl | exact .inr rfl | assumption)) (@pgs_cons _ _ _ _ _ (@pg_name _ _ 8 _ nd rfl (by first | exact Or.inl rfl | exact Or.inr rfl) (by first | exact .inl rfl | exact .inr rfl | assumption)) (@pgs_nil _) (by rfl)) (by rfl)) (by rfl)) (by rfl)) (by rfl)) (by rfl) (by rfl)) (@pss_one _ _ _ (@ps_if _ _ _ _ _ _ _ _ (@pt_cmpR _ _ _ _ _ _ _ _ (@op_eq _) (@pvD _ 4 _ _ (by rfl) (by first | exact Or.inl rfl | exact Or.inr (Or.inl rfl) | exact Or.inr (Or.inr rfl)) (by decide) (by decide)) (@pvD _ 1 _ _ (by rfl) (by first | exact Or.inl rfl | exact Or.inr (Or.inl rfl) | exact Or.inr (Or.inr rfl)) (by decide) (by decide)) (@nomark _ _ (by decide) (by decide))) (@pss_one _ _ _ (@ps_ret _ _ _ _ (@pe_has _ _ _ _ _ _ _ _ _ _ h_laid hr (@pa_cons _ _ _ _ _ (@pvD _ 7 _ _ (by rfl) (by first | exact Or.inl rfl | exact Or.inr (Or.inl rfl) | exact Or.inr (Or.inr rfl)) (by decide) (by decide)) (@pa_cons _ _ _ _ _ (@pe_ix _ _ _ _ _ _ _ (@ix_tup _) (@pvD _ 0 _ _ (by rfl) (by first | exact Or.inl rfl | exact Or.inr (Or.inl rfl) | exact Or.inr (Or.inr rfl)) (by decide) (by decide)) (@pe_int _ _ _ _) (fun _ _ => rfl)) (@pa_cons _ _ _ _ _ (@pvD _ 2 _ _ (by rfl) (by first | exact Or.inl rfl | exact Or.inr (Or.inl rfl) | exact Or.inr (Or.inr rfl)) (by decide) (by decide)) (@pa_cons _ _ _ _ _ (@pvD _ 3 _ _ (by rfl) (by first | exact Or.inl rfl | exact Or.inr (Or.inl rfl) | exact Or.inr (Or.inr rfl)) (by decide) (by decide)) (@pa_nil _) (by rfl)) (by rfl)) (by rfl)) (by rfl)) (by rfl) (by decide +kernel) (by rfl) (by rfl)))) (@pss_nil _))) (by intro _; rfl)) (@pss_one _ _ _ (@ps_ret _ _ _ _ (@pe_non _ _ _)))), ?_⟩
  rw [show start ["book", "rule", "words", "place", "name", "kind", "price", "shape", "deeds"] [.ref b, .str r.name, .ref wt, .int (p : Int)] = [some (.ref b), some (.str r.name), some (.ref wt), some (.int (p : Int)), none, none, none, none, none] from rfl]
  clear hu hu0 nd hr
  push_cast [spLaid]
  obtain ⟨kt, rt, ra, hb, hkt, hrt, hRA⟩ := hB
  have hil : i < rs.length := (List.getElem?_eq_some_iff.mp hri).1
  refine ⟨b, _, 1, .ref rt, rfl, rfl, SqT.of hb, rfl, rt, rfl, ⟨_, SqT.of hrt⟩, ?_⟩
  refine forW_tup (xs := ra.map V.ref) (fun j σ H' => ∃ v4 v5 v6 v7 v8 : Option V, σ = [some (.ref b), some (.str r.name), some (.ref wt), some (.int (p : Int)), v4, v5, v6, v7, v8] ∧ H' = H ∧ j ≤ i) ⟨none, none, none, none, none, rfl, rfl, Nat.zero_le _⟩ (fun j σ H' _ h => by obtain ⟨_, _, _, _, _, _, rfl, _⟩ := h; exact SqT.of hrt) ?_ ?_
  · rintro j y σ H' hy ⟨v4, v5, v6, v7, v8, rfl, rfl, hj⟩
    rw [List.getElem?_map] at hy
    obtain ⟨aj, haj, rfl⟩ := Option.map_eq_some_iff.mp hy
    obtain ⟨rj, hrj⟩ : ∃ rj, rs[j]? = some rj := ⟨_, List.getElem?_eq_getElem (by omega)⟩
    obtain ⟨a', ha', sa, da, ds, g1, g2, g3⟩ := hRA.2 j rj hrj
    obtain rfl : a' = aj := Option.some.inj (ha'.symm.trans haj)
    push_cast [gTup, gCons, gNil, spLaid]
    refine ⟨_, SqT.of g1, rfl, _, _, rfl, _, _, rfl, _, _, rfl, _, _, rfl, _, _, rfl, rfl, rfl, ?_⟩
    by_cases e : rj.name = r.name
    · rw [if_pos (by rw [e])]
      obtain rfl := bk.name hri hrj e
      obtain rfl : rj = r := Option.some.inj (hrj.symm.trans hri)
      obtain ⟨n, hn⟩ := tw.eat hp
      obtain ⟨s1, s2, s3⟩ := bk.sh rj (List.mem_of_getElem? hri)
      exact ⟨b, _, 0, .ref kt, rfl, rfl, SqT.of hb, rfl, sa, rfl, kt, rfl, rj.shape, kinds, ws, p, rfl, SqT.of g2, SqT.of hkt, SqT.of hW, bk.kd, s1, fun v hv => (tw.w v hv).1, s2, ⟨n, hn⟩, by omega, tw.len, q⟩
    · rw [if_neg (fun h => e (V.str.inj h))]
      rcases Nat.lt_or_ge j i with h | h
      · exact h
      · obtain rfl : j = i := by omega
        exact absurd (by rw [Option.some.inj (hrj.symm.trans hri)]) e
  · rintro σ H' ⟨v4, v5, v6, v7, v8, rfl, rfl, hj⟩
    rw [List.length_map, hRA.1] at hj
    omega
abbrev sNext : Stmt := top 11
theorem scNext : FnScope ["deck", "cells", "at"] ["deck"] (defScope sNext) := ⟨rfl, rfl, rfl, by decide +kernel, rfl, by decide +kernel, by decide +kernel⟩
theorem hasNext (G : Gs w K mg) (D : Def K mg "_law_next" sNext ["deck"]) : Has P w K mg base (k + 1) "_law_next" ["deck"] spNext := by
  refine D.has scNext (fun vs H Q E h => ?_) (fun f cdv A outer s H vs Q E hr h => ?_)
  · obtain ⟨_, _, _, _, rfl, _, _, _⟩ := h
    rfl
  have nd := scNext.nd
  have hu := hu_of hr
  have hu0 := Nat.lt_of_succ_lt hu
  obtain ⟨d, b, ns, n, rfl, hD, hn, q⟩ := h
  have m_len := G.m_len
  refine ⟨_, (@pss_cons _ _ _ _ _ (@ps_set _ _ 1 _ _ _ _ nd rfl (by first | exact Or.inl rfl | exact Or.inr rfl) (@pe_ix _ _ _ _ _ _ _ (@ix_list _) (@pvD _ 0 _ _ (by rfl) (by first | exact Or.inl rfl | exact Or.inr (Or.inl rfl) | exact Or.inr (Or.inr rfl)) (by decide) (by decide)) (@pe_int _ _ _ _) (fun _ _ => rfl)) (by rfl) (by first | exact .inl rfl | exact .inr rfl | assumption)) (@pss_cons _ _ _ _ _ (@ps_set _ _ 2 _ _ _ _ nd rfl (by first | exact Or.inl rfl | exact Or.inr rfl) (@pe_ix _ _ _ _ _ _ _ (@ix_list _) (@pvD _ 0 _ _ (by rfl) (by first | exact Or.inl rfl | exact Or.inr (Or.inl rfl) | exact Or.inr (Or.inr rfl)) (by decide) (by decide)) (@pe_int _ _ _ _) (fun _ _ => rfl)) (by rfl) (by first | exact .inl rfl | exact .inr rfl | assumption)) (@pss_cons _ _ _ _ _ (@ps_asg _ _ _ _ _ _ (@pe_op _ _ _ _ _ _ _ _ (@op_add _) (@pvD _ 2 _ _ (by rfl) (by first | exact Or.inl rfl | exact Or.inr (Or.inl rfl) | exact Or.inr (Or.inr rfl)) (by decide) (by decide)) (@pe_int _ _ _ _)) (@pg_sub _ _ _ _ _ _ _ (@pvD _ 0 _ _ (by rfl) (by first | exact Or.inl rfl | exact Or.inr (Or.inl rfl) | exact Or.inr (Or.inr rfl)) (by decide) (by decide)) (@pe_int _ _ _ _) (@set_list _) (by intro _; rfl)) (by rfl) (by rfl) (by rfl)) (@pss_cons _ _ _ _ _ (@ps_if _ _ _ _ _ _ _ _ (@pt_cmpR _ _ _ _ _ _ _ _ (@op_lt _) (@pvD _ 2 _ _ (by rfl) (by first | exact Or.inl rfl | exact Or.inr (Or.inl rfl) | exact Or.inr (Or.inr rfl)) (by decide) (by decide)) (@pe_callB _ _ _ _ _ _ _ _ _ (@call_len_seq _) rfl m_len b_len (@pa_cons _ _ _ _ _ (@pvD _ 1 _ _ (by rfl) (by first | exact Or.inl rfl | exact Or.inr (Or.inl rfl) | exact Or.inr (Or.inr rfl)) (by decide) (by decide)) (@pa_nil _) (by rfl)) (by decide) (by decide) (by rfl) (by rfl)) (@nomark _ _ (by decide) (by decide))) (@pss_one _ _ _ (@ps_ret _ _ _ _ (@pe_ix _ _ _ _ _ _ _ (@ix_list _) (@pvD _ 1 _ _ (by rfl) (by first | exact Or.inl rfl | exact Or.inr (Or.inl rfl) | exact Or.inr (Or.inr rfl)) (by decide) (by decide)) (@pvD _ 2 _ _ (by rfl) (by first | exact Or.inl rfl | exact Or.inr (Or.inl rfl) | exact Or.inr (Or.inr rfl)) (by decide) (by decide)) (fun _ _ => rfl)))) (@pss_nil _)) (@pss_cons _ _ _ _ _ (@ps_if _ _ _ _ _ _ _ _ (@pt_cmpR _ _ _ _ _ _ _ _ (@op_eq _) (@pe_callB _ _ _ _ _ _ _ _ _ (@call_len_seq _) rfl m_len b_len (@pa_cons _ _ _ _ _ (@pvD _ 1 _ _ (by rfl) (by first | exact Or.inl rfl | exact Or.inr (Or.inl rfl) | exact Or.inr (Or.inr rfl)) (by decide) (by decide)) (@pa_nil _) (by rfl)) (by decide) (by decide) (by rfl) (by rfl)) (@pe_int _ _ _ _) (@nomark _ _ (by decide) (by decide))) (@pss_one _ _ _ (@ps_ret _ _ _ _ (@pe_op _ _ _ _ _ _ _ _ (@op_add _) (@pe_op _ _ _ _ _ _ _ _ (@op_mul _) (@pe_op _ _ _ _ _ _ _ _ (@op_mul _) (@pvD _ 2 _ _ (by rfl) (by first | exact Or.inl rfl | exact Or.inr (Or.inl rfl) | exact Or.inr (Or.inr rfl)) (by decide) (by decide)) (@pvD _ 2 _ _ (by rfl) (by first | exact Or.inl rfl | exact Or.inr (Or.inl rfl) | exact Or.inr (Or.inr rfl)) (by decide) (by decide))) (@pe_int _ _ _ _)) (@pvD _ 2 _ _ (by rfl) (by first | exact Or.inl rfl | exact Or.inr (Or.inl rfl) | exact Or.inr (Or.inr rfl)) (by decide) (by decide))))) (@pss_nil _)) (@pss_one _ _ _ (@ps_ret _ _ _ _ (@pe_op _ _ _ _ _ _ _ _ (@op_add _) (@pe_op _ _ _ _ _ _ _ _ (@op_fdiv _) (@pe_ix _ _ _ _ _ _ _ (@ix_list _) (@pvD _ 1 _ _ (by rfl) (by first | exact Or.inl rfl | exact Or.inr (Or.inl rfl) | exact Or.inr (Or.inr rfl)) (by decide) (by decide)) (@pe_op _ _ _ _ _ _ _ _ (@op_mod _) (@pvD _ 2 _ _ (by rfl) (by first | exact Or.inl rfl | exact Or.inr (Or.inl rfl) | exact Or.inr (Or.inr rfl)) (by decide) (by decide)) (@pe_callB _ _ _ _ _ _ _ _ _ (@call_len_seq _) rfl m_len b_len (@pa_cons _ _ _ _ _ (@pvD _ 1 _ _ (by rfl) (by first | exact Or.inl rfl | exact Or.inr (Or.inl rfl) | exact Or.inr (Or.inr rfl)) (by decide) (by decide)) (@pa_nil _) (by rfl)) (by decide) (by decide) (by rfl) (by rfl))) (fun _ _ => rfl)) (@pe_int _ _ _ _)) (@pe_op _ _ _ _ _ _ _ _ (@op_mul _) (@pvD _ 2 _ _ (by rfl) (by first | exact Or.inl rfl | exact Or.inr (Or.inl rfl) | exact Or.inr (Or.inr rfl)) (by decide) (by decide)) (@pvD _ 2 _ _ (by rfl) (by first | exact Or.inl rfl | exact Or.inr (Or.inl rfl) | exact Or.inr (Or.inr rfl)) (by decide) (by decide))))))))))), ?_⟩
  rw [show start ["deck", "cells", "at"] [.ref d] = [some (.ref d), none, none] from rfl]
  clear hu hu0 nd hr
  push_cast [rIxL, gSub, rSetL, CDiv, CMul]
  have nb := hD.ne
  obtain ⟨h1, h2⟩ := hD
  refine ⟨_, SqL.of h1, .ref b, rfl, _, SqL.of h1, .int (n : Int), rfl, (n : Int), rfl, ?_⟩
  push_cast [and_true]
  have h3 : upd H d (.lst [.ref b, .int ((n : Int) + 1)]) b = some (.lst (ns.map V.int)) := by rw [upd_ne nb]; exact h2
  have hS : SameB d H (upd H d (.lst [.ref b, .int ((n : Int) + 1)])) := fun c o hc ho => by rw [upd_ne hc]; exact ho
  have hD' : upd H d (.lst [.ref b, .int ((n : Int) + 1)]) d = some (.lst [.ref b, .int ((n + 1 : Nat) : Int)]) := upd_same
  refine ⟨_, h1, 1, rfl, ns.map V.int, .inl (SqL.of h3), ite2 (fun c => ?_) fun c => ⟨ns.map V.int, .inl (SqL.of h3), rfl, ite2 (fun c2 => ?_) fun c2 => ?_⟩⟩
  · rw [List.length_map] at c
    have hlt : n < ns.length := by omega
    exact ⟨_, SqL.of h3, .int ns[n], atI_nat (by rw [List.getElem?_map, List.getElem?_eq_getElem hlt]; rfl), q _ _ hS hD'⟩
  · exact ⟨.inl ⟨by omega, by omega⟩, .inr trivial, q _ _ hS hD'⟩
  · rw [List.length_map] at c2
    have hpos : 0 < ns.length := by omega
    have hlt : n % ns.length < ns.length := Nat.mod_lt _ hpos
    refine ⟨ns.map V.int, .inl (SqL.of h3), by rw [List.length_map]; omega, _, SqL.of h3, .int ns[n % ns.length], ?_, _, rfl, .inl ⟨by omega, by omega⟩, q _ _ hS hD'⟩
    rw [List.length_map, show (n : Int) % (ns.length : Int) = ((n % ns.length : Nat) : Int) from (Int.natCast_emod _ _).symm]
    exact atI_nat (by rw [List.getElem?_map, List.getElem?_eq_getElem hlt]; rfl)
abbrev sEnds : Stmt := top 18
theorem scEnds : FnScope ["words", "ends", "stack", "back", "at", "end"] ["words"] (defScope sEnds) := ⟨rfl, rfl, rfl, by decide +kernel, rfl, by decide +kernel, by decide +kernel⟩
theorem hasEnds (G : Gs w K mg) (D : Def K mg "_law_ends" sEnds ["words"]) : Has P w K mg base (k + 1) "_law_ends" ["words"] (spEnds K) := by
  refine D.has scEnds (fun vs H Q E h => ?_) (fun f cdv A outer s H vs Q E hr h => ?_)
  · obtain ⟨_, _, rfl, _, _, _, _, _⟩ := h
    rfl
  have nd := scEnds.nd
  have hu := hu_of hr
  have hu0 := Nat.lt_of_succ_lt hu
  obtain ⟨t, ws, rfl, hT, hw, hTm, hl, q⟩ := h
  have m_len := G.m_len
  have m_range := G.m_range
  refine ⟨_, (@pss_cons _ _ _ _ _ (@ps_set _ _ 1 _ _ _ _ nd rfl (by first | exact Or.inl rfl | exact Or.inr rfl) (@pe_op _ _ _ _ _ _ _ _ (@op_rep _) (@pe_lst _ _ _ _ (@pa_cons _ _ _ _ _ (@pe_int _ _ _ _) (@pa_nil _) (by rfl))) (@pe_callB _ _ _ _ _ _ _ _ _ (@call_len_seq _) rfl m_len b_len (@pa_cons _ _ _ _ _ (@pvD _ 0 _ _ (by rfl) (by first | exact Or.inl rfl | exact Or.inr (Or.inl rfl) | exact Or.inr (Or.inr rfl)) (by decide) (by decide)) (@pa_nil _) (by rfl)) (by decide) (by decide) (by rfl) (by rfl))) (by rfl) (by first | exact .inl rfl | exact .inr rfl | assumption)) (@pss_cons _ _ _ _ _ (@ps_set _ _ 2 _ _ _ _ nd rfl (by first | exact Or.inl rfl | exact Or.inr rfl) (@pe_lst _ _ _ _ (@pa_nil _)) (by rfl) (by first | exact .inl rfl | exact .inr rfl | assumption)) (@pss_cons _ _ _ _ _ (@ps_for _ _ _ _ _ _ _ _ PassesOwn.never rfl (@pi_range1 _ _ _ _ _ _ rfl m_range (@pa_cons _ _ _ _ _ (@pe_callB _ _ _ _ _ _ _ _ _ (@call_len_seq _) rfl m_len b_len (@pa_cons _ _ _ _ _ (@pvD _ 0 _ _ (by rfl) (by first | exact Or.inl rfl | exact Or.inr (Or.inl rfl) | exact Or.inr (Or.inr rfl)) (by decide) (by decide)) (@pa_nil _) (by rfl)) (by decide) (by decide) (by rfl) (by rfl)) (@pa_nil _) (by rfl)) (by rfl)) (@pg_name _ _ 3 _ nd rfl (by first | exact Or.inl rfl | exact Or.inr rfl) (by first | exact .inl rfl | exact .inr rfl | assumption)) (@pss_cons _ _ _ _ _ (@ps_set _ _ 4 _ _ _ _ nd rfl (by first | exact Or.inl rfl | exact Or.inr rfl) (@pe_op _ _ _ _ _ _ _ _ (@op_sub _) (@pe_op _ _ _ _ _ _ _ _ (@op_sub _) (@pe_callB _ _ _ _ _ _ _ _ _ (@call_len_seq _) rfl m_len b_len (@pa_cons _ _ _ _ _ (@pvD _ 0 _ _ (by rfl) (by first | exact Or.inl rfl | exact Or.inr (Or.inl rfl) | exact Or.inr (Or.inr rfl)) (by decide) (by decide)) (@pa_nil _) (by rfl)) (by decide) (by decide) (by rfl) (by rfl)) (@pe_int _ _ _ _)) (@pvD _ 3 _ _ (by rfl) (by first | exact Or.inl rfl | exact Or.inr (Or.inl rfl) | exact Or.inr (Or.inr rfl)) (by decide) (by decide))) (by rfl) (by first | exact .inl rfl | exact .inr rfl | assumption)) (@pss_cons _ _ _ _ _ (@ps_set _ _ 5 _ _ _ _ nd rfl (by first | exact Or.inl rfl | exact Or.inr rfl) (@pe_op _ _ _ _ _ _ _ _ (@op_add _) (@pvD _ 4 _ _ (by rfl) (by first | exact Or.inl rfl | exact Or.inr (Or.inl rfl) | exact Or.inr (Or.inr rfl)) (by decide) (by decide)) (@pe_int _ _ _ _)) (by rfl) (by first | exact .inl rfl | exact .inr rfl | assumption)) (@pss_mid _ _ _ _ _ (@ps_if _ _ _ _ _ _ _ _ (@pt_cmpR _ _ _ _ _ _ _ _ (@op_in_seq _) (@pe_ix _ _ _ _ _ _ _ (@ix_tup _) (@pvD _ 0 _ _ (by rfl) (by first | exact Or.inl rfl | exact Or.inr (Or.inl rfl) | exact Or.inr (Or.inr rfl)) (by decide) (by decide)) (@pvD _ 4 _ _ (by rfl) (by first | exact Or.inl rfl | exact Or.inr (Or.inl rfl) | exact Or.inr (Or.inr rfl)) (by decide) (by decide)) (fun _ _ => rfl)) (@pe_lst _ _ _ _ (@pa_const _ _ _ (@CsOk.str _ _ _ _ _ (@CsOk.str _ _ _ _ _ (@CsOk.str _ _ _ _ _ (@CsOk.nil)))))) (by with_unfolding_all rfl)) (@pss_one _ _ _ (@ps_expr _ _ _ _ (@pe_bm0 _ _ _ _ _ _ _ _ _ PySem.F.plainAttrs_list PySem.F.slot_list_pop PySem.F.type_list_pop (@mt_pop _) (@pvD _ 2 _ _ (by rfl) (by first | exact Or.inl rfl | exact Or.inr (Or.inl rfl) | exact Or.inr (Or.inr rfl)) (by decide) (by decide)) (by rfl) (by rfl)) (by rfl))) (@pss_nil _)) (@pss_mid _ _ _ _ _ (@ps_if _ _ _ _ _ _ _ _ (@pt_cmpR _ _ _ _ _ _ _ _ (@op_in_seq _) (@pe_ix _ _ _ _ _ _ _ (@ix_tup _) (@pvD _ 0 _ _ (by rfl) (by first | exact Or.inl rfl | exact Or.inr (Or.inl rfl) | exact Or.inr (Or.inr rfl)) (by decide) (by decide)) (@pvD _ 4 _ _ (by rfl) (by first | exact Or.inl rfl | exact Or.inr (Or.inl rfl) | exact Or.inr (Or.inr rfl)) (by decide) (by decide)) (fun _ _ => rfl)) (@pe_lst _ _ _ _ (@pa_const _ _ _ (@CsOk.str _ _ _ _ _ (@CsOk.str _ _ _ _ _ (@CsOk.str _ _ _ _ _ (@CsOk.str _ _ _ _ _ (@CsOk.nil))))))) (by with_unfolding_all rfl)) (@pss_one _ _ _ (@ps_set _ _ 5 _ _ _ _ nd rfl (by first | exact Or.inl rfl | exact Or.inr rfl) (@pe_bm0 _ _ _ _ _ _ _ _ _ PySem.F.plainAttrs_list PySem.F.slot_list_pop PySem.F.type_list_pop (@mt_pop _) (@pvD _ 2 _ _ (by rfl) (by first | exact Or.inl rfl | exact Or.inr (Or.inl rfl) | exact Or.inr (Or.inr rfl)) (by decide) (by decide)) (by rfl) (by rfl)) (by rfl) (by first | exact .inl rfl | exact .inr rfl | assumption))) (@pss_nil _)) (@pss_cons _ _ _ _ _ (@ps_expr _ _ _ _ (@pe_bm _ _ _ _ _ _ _ _ _ _ _ _ PySem.F.plainAttrs_list PySem.F.slot_list_append PySem.F.type_list_append (@mt_append _) (@pvD _ 2 _ _ (by rfl) (by first | exact Or.inl rfl | exact Or.inr (Or.inl rfl) | exact Or.inr (Or.inr rfl)) (by decide) (by decide)) (@pa_cons _ _ _ _ _ (@pvD _ 5 _ _ (by rfl) (by first | exact Or.inl rfl | exact Or.inr (Or.inl rfl) | exact Or.inr (Or.inr rfl)) (by decide) (by decide)) (@pa_nil _) (by rfl)) (by rfl) (by rfl) (by rfl) (by rfl) (by rfl)) (by rfl)) (@pss_one _ _ _ (@ps_asg _ _ _ _ _ _ (@pvD _ 5 _ _ (by rfl) (by first | exact Or.inl rfl | exact Or.inr (Or.inl rfl) | exact Or.inr (Or.inr rfl)) (by decide) (by decide)) (@pg_sub _ _ _ _ _ _ _ (@pvD _ 1 _ _ (by rfl) (by first | exact Or.inl rfl | exact Or.inr (Or.inl rfl) | exact Or.inr (Or.inr rfl)) (by decide) (by decide)) (@pvD _ 4 _ _ (by rfl) (by first | exact Or.inl rfl | exact Or.inr (Or.inl rfl) | exact Or.inr (Or.inr rfl)) (by decide) (by decide)) (@set_list _) (by intro _; rfl)) (by rfl) (by rfl) (by rfl)))))))) (by intro _; rfl)) (@pss_one _ _ _ (@ps_ret _ _ _ _ (@pvD _ 1 _ _ (by rfl) (by first | exact Or.inl rfl | exact Or.inr (Or.inl rfl) | exact Or.inr (Or.inr rfl)) (by decide) (by decide))))))), ?_⟩
  rw [show start ["words", "ends", "stack", "back", "at", "end"] [.ref t] = [some (.ref t), none, none, none, none, none] from rfl]
  clear hu hu0 nd hr
  push_cast [and_true]
  have sz := sizeLine_eq
  refine ⟨by show (1 : Nat) ≤ sizeLine; decide, fun p0 hp0 => ⟨ws, .inr ((same_new hp0 _).tup hT), rRep_ok upd_same (by omega) (by omega) fun el hel => ⟨Nat.zero_le _, fun sp hsp => ⟨ws, .inr ((((same_new hp0 _).trans (same_new hel _)).trans (same_new hsp _)).tup hT), by omega, by omega, ?_⟩⟩⟩⟩
  rw [show ((ws.length : Nat) : Int).toNat = ws.length by omega] at hsp ⊢
  have S1 := same_new hp0 (.lst [V.int 0])
  have fe := S1.free hel
  have S2 := S1.trans (same_new hel (.lst (List.replicate ws.length (V.int 0))))
  have fs := S2.free hsp
  have S3 := S2.trans (same_new hsp (.lst []))
  have nes : el ≠ sp := ne_of_none upd_same hsp
  have e3 := same_new hsp (.lst []) _ _ (upd_same (H := upd H p0 (.lst [V.int 0])) (a := el) (o := .lst (List.replicate ws.length (V.int 0))))
  have p3 : upd (upd (upd H p0 (.lst [V.int 0])) el (.lst (List.replicate ws.length (V.int 0)))) sp (.lst []) sp = some (.lst []) := upd_same
  generalize upd (upd (upd H p0 (.lst [V.int 0])) el (.lst (List.replicate ws.length (V.int 0)))) sp (.lst []) = H3 at S3 e3 p3 ⊢
  refine forW_range (lo := 0) (fun j σ H' => ∃ v3 v4 v5 : Option V, σ = [some (.ref t), some (.ref el), some (.ref sp), v3, v4, v5] ∧ Same H H' ∧ H' sp = some (.lst (((tops ws (ws.length - j)).drop 1).reverse.map plV)) ∧ H' el = some (.lst (List.replicate (ws.length - j) (V.int 0) ++ (List.range j).map fun i => plV (endAt ws (ws.length - j + i))))) ?_ ?_ ?_
  · refine ⟨none, none, none, rfl, S3, ?_, ?_⟩
    · rw [Nat.sub_zero, tops_end]
      exact p3
    · rw [e3]
      simp
  · rintro j σ H5 hj ⟨v3, v4, v5, rfl, s5, p5, e5⟩
    obtain ⟨p, hp⟩ : ∃ p, p + j + 1 = ws.length := ⟨ws.length - 1 - j, by omega⟩
    rw [show ws.length - j = p + 1 by omega] at p5 e5
    rw [show ws.length - (j + 1) = p by omega]
    have hpl : p < ws.length := by omega
    have hx : ws[p]? = some ws[p] := List.getElem?_eq_getElem hpl
    have hxw := hw _ (List.getElem_mem hpl)
    have hat : atI ws (p : Int) = some ws[p] := atI_nat hx
    generalize ws[p] = x at hx hxw hat
    obtain ⟨tp, u, tu⟩ := tops_at hTm hx
    push_cast [and_true]
    refine ⟨ws, .inr (s5.tup hT), ?_⟩
    rw [show ((ws.length : Int) - 1 - (0 + (j : Int))) = (p : Int) by omega]
    obtain ⟨E', hT'⟩ := tops_head ws (p := p + 1) (by omega)
    rw [hT'] at p5 tp tu
    have p5 : H5 sp = some (.lst (E'.reverse.map plV)) := p5
    have three := three_in hxw
    have four := four_in hxw
    have ar2 := arV_le x
    have rp : ∀ (y : Nat) (L : List Nat), ((y :: L).reverse.map plV) = L.reverse.map plV ++ [plV y] := fun y L => by rw [List.reverse_cons, List.map_append]; rfl
    refine tMid_of (fun σ' H6 => σ' = [some (.ref t), some (.ref el), some (.ref sp), some (.int (0 + (j : Int))), some (.int (p : Int)), some (.int ((p : Int) + 1))] ∧ Same H H6 ∧ H6 el = H5 el ∧ H6 sp = some (.lst ((if arV x = 2 then E'.drop 1 else E').reverse.map plV))) ?_ ?_
    · push_cast [rIn]
      refine ⟨t, ws, _, x, rfl, rfl, s5.tup hT, hat, by show (3 : Nat) ≤ sizeLine; decide, fun a ha => ⟨_, .inl (SqL.of upd_same), hxw.flat, rfl, ite2 (fun c2 => ?_) fun c2 => ?_⟩⟩
      · have a2 := three.mp c2
        rw [a2] at tu
        rw [if_pos a2]
        cases E' with
        | nil => cases tu
        | cons e1 E2 =>
          rw [rp] at p5
          exact pop_ok (same_new ha _ _ _ p5) ⟨(s5.trans (same_new ha _)).upd fs _, by rw [upd_ne nes, same_new ha _ _ _ e5, e5], by rw [upd_same]; rfl⟩
      · rw [if_neg fun e => c2 (three.mpr e)]
        exact ⟨s5.trans (same_new ha _), by rw [same_new ha _ _ _ e5, e5], same_new ha _ _ _ p5⟩
    rintro _ H6 ⟨rfl, s6, e6, p6⟩
    refine tMid_of (fun σ' H7 => σ' = [some (.ref t), some (.ref el), some (.ref sp), some (.int (0 + (j : Int))), some (.int (p : Int)), some (plV (endAt ws p))] ∧ Same H H7 ∧ H7 el = H5 el ∧ H7 sp = some (.lst (u.reverse.map plV))) ?_ ?_
    · push_cast [rIn]
      refine ⟨t, ws, _, x, rfl, rfl, s6.tup hT, hat, by show (4 : Nat) ≤ sizeLine; decide, fun a ha => ⟨_, .inl (SqL.of upd_same), hxw.flat, rfl, ite2 (fun c2 => ?_) fun c2 => ?_⟩⟩
      · have a1 := four.mp c2
        have hE : (if arV x = 2 then E'.drop 1 else E') = endAt ws p :: u := by
          by_cases a2 : arV x = 2
          · rw [if_pos a2]
            rw [a2] at tu
            exact tu
          · rw [if_neg a2]
            rw [show arV x = 1 by omega] at tu
            exact tu
        rw [hE, rp] at p6
        exact pop_ok (same_new ha _ _ _ p6) ⟨rfl, (s6.trans (same_new ha _)).upd fs _, by rw [upd_ne nes, same_new ha _ _ _ (e6.trans e5), e5], upd_same⟩
      · have a0 : arV x = 0 := by
          rcases Nat.eq_zero_or_pos (arV x) with h | h
          · exact h
          · exact absurd (four.mpr h) c2
        rw [a0] at tu p6
        have tu : (p + 1) :: E' = endAt ws p :: u := tu
        obtain ⟨y1, y2⟩ := List.cons.inj tu
        rw [if_neg (by decide), y2] at p6
        exact ⟨by omega, s6.trans (same_new ha _), by rw [same_new ha _ _ _ (e6.trans e5), e5], same_new ha _ _ _ p6⟩
    rintro _ H7 ⟨rfl, s7, e7, p7⟩
    push_cast [gSub, rSetL]
    have tl := tops_len ws p
    rw [tp, tu, List.length_cons, List.length_cons] at tl
    refine append_ok p7 (by rw [List.length_map, List.length_reverse]; omega) ⟨_, by rw [upd_ne nes]; exact e7.trans e5, p, ixN_nat (by rw [List.length_append, List.length_replicate]; omega), (s7.upd fs _).upd fe _, ?_, ?_⟩
    · rw [upd_ne nes.symm, upd_same, tp, tu]
      show _ = some (HO.lst ((endAt ws p :: u).reverse.map plV))
      rw [rp]
    · rw [upd_same, set_zero, List.range_succ_eq_map, List.map_cons, List.map_map]
      show some (HO.lst (_ ++ plV (endAt ws p) :: List.map (fun i => plV (endAt ws (p + 1 + i))) (List.range j))) = some (HO.lst (_ ++ plV (endAt ws (p + 0)) :: List.map ((fun i => plV (endAt ws (p + i))) ∘ Nat.succ) (List.range j)))
      have ef : ((fun i => plV (endAt ws (p + i))) ∘ Nat.succ) = fun i => plV (endAt ws (p + 1 + i)) := by
        funext i
        show plV (endAt ws (p + (i + 1))) = _
        rw [show p + (i + 1) = p + 1 + i by omega]
      rw [ef]
      rfl
  · rintro σ H5 ⟨v3, v4, v5, rfl, s5, p5, e5⟩
    push_cast [and_true]
    refine q el H5 s5 fe ?_
    rw [e5, Nat.sub_self]
    simp
abbrev sLLaid : Stmt := top 19
theorem scLLaid : FnScope ["kinds", "shape", "words", "ends", "place", "under", "word", "there"] ["kinds", "shape", "words", "ends", "place"] (defScope sLLaid) := ⟨rfl, rfl, rfl, by decide +kernel, rfl, by decide +kernel, by decide +kernel⟩
theorem hasLLaid (G : Gs w K mg) (D : Def K mg "_law_laid" sLLaid ["kinds", "shape", "words", "ends", "place"]) : Has P w K mg base (k + 1) "_law_laid" ["kinds", "shape", "words", "ends", "place"] (spLLaid K) := by
  refine D.has scLLaid (fun vs H Q E h => ?_) (fun f cdv A outer s H vs Q E hr h => ?_)
  · obtain ⟨_, _, _, _, _, _, _, _, rfl, _, _, _, _, _, _, _, _, _, _, _⟩ := h
    rfl
  have nd := scLLaid.nd
  have hu := hu_of hr
  have hu0 := Nat.lt_of_succ_lt hu
  obtain ⟨st, kt, wt, et, sh, kinds, ws, p, rfl, hS, hK, hW, hE, hk, hs, hTm, hl1, tw, hp, q⟩ := h
  have m_int := G.m_int
  have m_isinstance := G.m_isinstance
  have m_str := G.m_str
  have m_tuple := G.m_tuple
  refine ⟨_, (@pss_cons _ _ _ _ _ (@ps_set _ _ 5 _ _ _ _ nd rfl (by first | exact Or.inl rfl | exact Or.inr rfl) (@pe_lst _ _ _ _ (@pa_cons _ _ _ _ _ (@pe_lst _ _ _ _ (@pa_nil _)) (@pa_cons _ _ _ _ _ (@pe_lst _ _ _ _ (@pa_nil _)) (@pa_cons _ _ _ _ _ (@pe_lst _ _ _ _ (@pa_nil _)) (@pa_nil _) (by rfl)) (by rfl)) (by rfl))) (by rfl) (by first | exact .inl rfl | exact .inr rfl | assumption)) (@pss_cons _ _ _ _ _ (@ps_for _ _ _ _ _ _ _ _ PassesOwn.never rfl (@pi_tup _ _ _ _ (@pvD _ 1 _ _ (by rfl) (by first | exact Or.inl rfl | exact Or.inr (Or.inl rfl) | exact Or.inr (Or.inr rfl)) (by decide) (by decide))) (@pg_name _ _ 6 _ nd rfl (by first | exact Or.inl rfl | exact Or.inr rfl) (by first | exact .inl rfl | exact .inr rfl | assumption)) (@pss_cons _ _ _ _ _ (@ps_set _ _ 7 _ _ _ _ nd rfl (by first | exact Or.inl rfl | exact Or.inr rfl) (@pe_ix _ _ _ _ _ _ _ (@ix_tup _) (@pvD _ 2 _ _ (by rfl) (by first | exact Or.inl rfl | exact Or.inr (Or.inl rfl) | exact Or.inr (Or.inr rfl)) (by decide) (by decide)) (@pvD _ 4 _ _ (by rfl) (by first | exact Or.inl rfl | exact Or.inr (Or.inl rfl) | exact Or.inr (Or.inr rfl)) (by decide) (by decide)) (fun _ _ => rfl)) (by rfl) (by first | exact .inl rfl | exact .inr rfl | assumption)) (@pss_one _ _ _ (@ps_if _ _ _ _ _ _ _ _ (@pt_cmpR _ _ _ _ _ _ _ _ (@op_in_seq _) (@pvD _ 6 _ _ (by rfl) (by first | exact Or.inl rfl | exact Or.inr (Or.inl rfl) | exact Or.inr (Or.inr rfl)) (by decide) (by decide)) (@pvD _ 0 _ _ (by rfl) (by first | exact Or.inl rfl | exact Or.inr (Or.inl rfl) | exact Or.inr (Or.inr rfl)) (by decide) (by decide)) (by with_unfolding_all rfl)) (@pss_cons _ _ _ _ _ (@ps_expr _ _ _ _ (@pe_bm _ _ _ _ _ _ _ _ _ _ _ _ PySem.F.plainAttrs_list PySem.F.slot_list_append PySem.F.type_list_append (@mt_append _) (@pe_ix _ _ _ _ _ _ _ (@ix_list _) (@pvD _ 5 _ _ (by rfl) (by first | exact Or.inl rfl | exact Or.inr (Or.inl rfl) | exact Or.inr (Or.inr rfl)) (by decide) (by decide)) (@pe_int _ _ _ _) (fun _ _ => rfl)) (@pa_cons _ _ _ _ _ (@pvD _ 4 _ _ (by rfl) (by first | exact Or.inl rfl | exact Or.inr (Or.inl rfl) | exact Or.inr (Or.inr rfl)) (by decide) (by decide)) (@pa_nil _) (by rfl)) (by rfl) (by rfl) (by rfl) (by rfl) (by rfl)) (by rfl)) (@pss_one _ _ _ (@ps_set _ _ 4 _ _ _ _ nd rfl (by first | exact Or.inl rfl | exact Or.inr rfl) (@pe_ix _ _ _ _ _ _ _ (@ix_list _) (@pvD _ 3 _ _ (by rfl) (by first | exact Or.inl rfl | exact Or.inr (Or.inl rfl) | exact Or.inr (Or.inr rfl)) (by decide) (by decide)) (@pvD _ 4 _ _ (by rfl) (by first | exact Or.inl rfl | exact Or.inr (Or.inl rfl) | exact Or.inr (Or.inr rfl)) (by decide) (by decide)) (fun _ _ => rfl)) (by rfl) (by first | exact .inl rfl | exact .inr rfl | assumption)))) (@pss_one _ _ _ (@ps_if _ _ _ _ _ _ _ _ (@PW.pt _ _ _ (@pw_and _ _ _ _ _ _ _ (@pt_cmpR _ _ _ _ _ _ _ _ (@op_eq _) (@pvD _ 6 _ _ (by rfl) (by first | exact Or.inl rfl | exact Or.inr (Or.inl rfl) | exact Or.inr (Or.inr rfl)) (by decide) (by decide)) (@pe_str _ _ _ _) (@nomark _ _ (by decide) (by decide))) (@pw_and1 _ _ _ _ (@pt_val _ _ _ (@pe_callB _ _ _ _ _ _ _ _ _ (@call_isinst _) rfl m_isinstance b_isinstance (@pa_cons _ _ _ _ _ (@pvD _ 7 _ _ (by rfl) (by first | exact Or.inl rfl | exact Or.inr (Or.inl rfl) | exact Or.inr (Or.inr rfl)) (by decide) (by decide)) (@pa_cons _ _ _ _ _ (@pe_gty _ _ _ _ m_int b_int (by rfl) (by decide +kernel) (by decide +kernel)) (@pa_nil _) (by rfl)) (by rfl)) (by decide) (by decide) (by rfl) (by rfl)) (by intro _; rfl))))) (@pss_cons _ _ _ _ _ (@ps_expr _ _ _ _ (@pe_bm _ _ _ _ _ _ _ _ _ _ _ _ PySem.F.plainAttrs_list PySem.F.slot_list_append PySem.F.type_list_append (@mt_append _) (@pe_ix _ _ _ _ _ _ _ (@ix_list _) (@pvD _ 5 _ _ (by rfl) (by first | exact Or.inl rfl | exact Or.inr (Or.inl rfl) | exact Or.inr (Or.inr rfl)) (by decide) (by decide)) (@pe_int _ _ _ _) (fun _ _ => rfl)) (@pa_cons _ _ _ _ _ (@pvD _ 7 _ _ (by rfl) (by first | exact Or.inl rfl | exact Or.inr (Or.inl rfl) | exact Or.inr (Or.inr rfl)) (by decide) (by decide)) (@pa_nil _) (by rfl)) (by rfl) (by rfl) (by rfl) (by rfl) (by rfl)) (by rfl)) (@pss_one _ _ _ (@ps_set _ _ 4 _ _ _ _ nd rfl (by first | exact Or.inl rfl | exact Or.inr rfl) (@pe_op _ _ _ _ _ _ _ _ (@op_add _) (@pvD _ 4 _ _ (by rfl) (by first | exact Or.inl rfl | exact Or.inr (Or.inl rfl) | exact Or.inr (Or.inr rfl)) (by decide) (by decide)) (@pe_int _ _ _ _)) (by rfl) (by first | exact .inl rfl | exact .inr rfl | assumption)))) (@pss_one _ _ _ (@ps_if _ _ _ _ _ _ _ _ (@PW.pt _ _ _ (@pw_and _ _ _ _ _ _ _ (@pt_cmpR _ _ _ _ _ _ _ _ (@op_eq _) (@pvD _ 6 _ _ (by rfl) (by first | exact Or.inl rfl | exact Or.inr (Or.inl rfl) | exact Or.inr (Or.inr rfl)) (by decide) (by decide)) (@pe_str _ _ _ _) (@nomark _ _ (by decide) (by decide))) (@pw_and _ _ _ _ _ _ _ (@pt_val _ _ _ (@pe_callB _ _ _ _ _ _ _ _ _ (@call_isinst _) rfl m_isinstance b_isinstance (@pa_cons _ _ _ _ _ (@pvD _ 7 _ _ (by rfl) (by first | exact Or.inl rfl | exact Or.inr (Or.inl rfl) | exact Or.inr (Or.inr rfl)) (by decide) (by decide)) (@pa_cons _ _ _ _ _ (@pe_gty _ _ _ _ m_str b_str (by rfl) (by decide +kernel) (by decide +kernel)) (@pa_nil _) (by rfl)) (by rfl)) (by decide) (by decide) (by rfl) (by rfl)) (by intro _; rfl)) (@pw_and1 _ _ _ _ (@pt_cmpR _ _ _ _ _ _ _ _ (@op_notIn_seq _) (@pvD _ 7 _ _ (by rfl) (by first | exact Or.inl rfl | exact Or.inr (Or.inl rfl) | exact Or.inr (Or.inr rfl)) (by decide) (by decide)) (@pe_lst _ _ _ _ (@pa_const _ _ _ (@CsOk.str _ _ _ _ _ (@CsOk.str _ _ _ _ _ (@CsOk.str _ _ _ _ _ (@CsOk.str _ _ _ _ _ (@CsOk.nil))))))) (by with_unfolding_all rfl)))))) (@pss_cons _ _ _ _ _ (@ps_expr _ _ _ _ (@pe_bm _ _ _ _ _ _ _ _ _ _ _ _ PySem.F.plainAttrs_list PySem.F.slot_list_append PySem.F.type_list_append (@mt_append _) (@pe_ix _ _ _ _ _ _ _ (@ix_list _) (@pvD _ 5 _ _ (by rfl) (by first | exact Or.inl rfl | exact Or.inr (Or.inl rfl) | exact Or.inr (Or.inr rfl)) (by decide) (by decide)) (@pe_int _ _ _ _) (fun _ _ => rfl)) (@pa_cons _ _ _ _ _ (@pvD _ 7 _ _ (by rfl) (by first | exact Or.inl rfl | exact Or.inr (Or.inl rfl) | exact Or.inr (Or.inr rfl)) (by decide) (by decide)) (@pa_nil _) (by rfl)) (by rfl) (by rfl) (by rfl) (by rfl) (by rfl)) (by rfl)) (@pss_one _ _ _ (@ps_set _ _ 4 _ _ _ _ nd rfl (by first | exact Or.inl rfl | exact Or.inr rfl) (@pe_op _ _ _ _ _ _ _ _ (@op_add _) (@pvD _ 4 _ _ (by rfl) (by first | exact Or.inl rfl | exact Or.inr (Or.inl rfl) | exact Or.inr (Or.inr rfl)) (by decide) (by decide)) (@pe_int _ _ _ _)) (by rfl) (by first | exact .inl rfl | exact .inr rfl | assumption)))) (@pss_one _ _ _ (@ps_if _ _ _ _ _ _ _ _ (@pt_cmpR _ _ _ _ _ _ _ _ (@op_eq _) (@pvD _ 6 _ _ (by rfl) (by first | exact Or.inl rfl | exact Or.inr (Or.inl rfl) | exact Or.inr (Or.inr rfl)) (by decide) (by decide)) (@pvD _ 7 _ _ (by rfl) (by first | exact Or.inl rfl | exact Or.inr (Or.inl rfl) | exact Or.inr (Or.inr rfl)) (by decide) (by decide)) (@nomark _ _ (by decide) (by decide))) (@pss_one _ _ _ (@ps_set _ _ 4 _ _ _ _ nd rfl (by first | exact Or.inl rfl | exact Or.inr rfl) (@pe_op _ _ _ _ _ _ _ _ (@op_add _) (@pvD _ 4 _ _ (by rfl) (by first | exact Or.inl rfl | exact Or.inr (Or.inl rfl) | exact Or.inr (Or.inr rfl)) (by decide) (by decide)) (@pe_int _ _ _ _)) (by rfl) (by first | exact .inl rfl | exact .inr rfl | assumption))) (@pss_one _ _ _ (@ps_ret _ _ _ _ (@pe_non _ _ _)))))))))))) (by intro _; rfl)) (@pss_one _ _ _ (@ps_ret _ _ _ _ (@pe_tup _ _ _ _ _ (@pa_cons _ _ _ _ _ (@pe_callTy _ _ _ _ _ _ _ _ _ (@call_tuple_of _) rfl m_tuple b_tuple (@pa_cons _ _ _ _ _ (@pe_ix _ _ _ _ _ _ _ (@ix_list _) (@pvD _ 5 _ _ (by rfl) (by first | exact Or.inl rfl | exact Or.inr (Or.inl rfl) | exact Or.inr (Or.inr rfl)) (by decide) (by decide)) (@pe_int _ _ _ _) (fun _ _ => rfl)) (@pa_nil _) (by rfl)) (by decide) (by decide) (by rfl) (by rfl)) (@pa_cons _ _ _ _ _ (@pe_callTy _ _ _ _ _ _ _ _ _ (@call_tuple_of _) rfl m_tuple b_tuple (@pa_cons _ _ _ _ _ (@pe_ix _ _ _ _ _ _ _ (@ix_list _) (@pvD _ 5 _ _ (by rfl) (by first | exact Or.inl rfl | exact Or.inr (Or.inl rfl) | exact Or.inr (Or.inr rfl)) (by decide) (by decide)) (@pe_int _ _ _ _) (fun _ _ => rfl)) (@pa_nil _) (by rfl)) (by decide) (by decide) (by rfl) (by rfl)) (@pa_cons _ _ _ _ _ (@pe_callTy _ _ _ _ _ _ _ _ _ (@call_tuple_of _) rfl m_tuple b_tuple (@pa_cons _ _ _ _ _ (@pe_ix _ _ _ _ _ _ _ (@ix_list _) (@pvD _ 5 _ _ (by rfl) (by first | exact Or.inl rfl | exact Or.inr (Or.inl rfl) | exact Or.inr (Or.inr rfl)) (by decide) (by decide)) (@pe_int _ _ _ _) (fun _ _ => rfl)) (@pa_nil _) (by rfl)) (by decide) (by decide) (by rfl) (by rfl)) (@pa_nil _) (by rfl)) (by rfl)) (by rfl))))))), ?_⟩
  rw [show start ["kinds", "shape", "words", "ends", "place", "under", "word", "there"] [.ref kt, .ref st, .ref wt, .ref et, .int (p : Int)] = [some (.ref kt), some (.ref st), some (.ref wt), some (.ref et), some (.int (p : Int)), none, none, none] from rfl]
  clear hu hu0 nd hr
  push_cast [and_true]
  have sz := sizeLine_eq
  have hw := fun v hv => (tw.w v hv).1
  obtain ⟨n, he⟩ := tw.eat hp
  refine ⟨Nat.zero_le _, fun l1 h1 => ⟨Nat.zero_le _, fun l2 h2 => ⟨Nat.zero_le _, fun l3 h3 => ⟨by show (3 : Nat) ≤ sizeLine; decide, fun u0 h0 => ?_⟩⟩⟩⟩
  have n21 : l2 ≠ l1 := (ne_of_none upd_same h2).symm
  have n31 : l3 ≠ l1 := (ne_of_none (same_new h2 _ _ _ upd_same) h3).symm
  have n32 : l3 ≠ l2 := (ne_of_none upd_same h3).symm
  have n10 : u0 ≠ l1 := (ne_of_none (same_new h3 _ _ _ (same_new h2 _ _ _ upd_same)) h0).symm
  have n20 : u0 ≠ l2 := (ne_of_none (same_new h3 _ _ _ upd_same) h0).symm
  have n30 : u0 ≠ l3 := (ne_of_none upd_same h0).symm
  have S1 := same_new h1 (.lst [])
  have f2 := S1.free h2
  have S2 := S1.trans (same_new h2 (.lst []))
  have f3 := S2.free h3
  have S3 := S2.trans (same_new h3 (.lst []))
  have S4 := S3.trans (same_new h0 (.lst [.ref l1, .ref l2, .ref l3]))
  have U4 : ULAt (upd (upd (upd (upd H l1 (.lst [])) l2 (.lst [])) l3 (.lst [])) u0 (.lst [.ref l1, .ref l2, .ref l3])) u0 l1 l2 l3 ⟨[], [], []⟩ :=
    ⟨upd_same, by rw [upd_ne n10.symm, upd_ne n31.symm, upd_ne n21.symm, upd_same]; rfl, by rw [upd_ne n20.symm, upd_ne n32.symm, upd_same], by rw [upd_ne n30.symm, upd_same]⟩
  generalize upd (upd (upd (upd H l1 (.lst [])) l2 (.lst [])) l3 (.lst [])) u0 (.lst [.ref l1, .ref l2, .ref l3]) = H4 at S4 U4 ⊢
  refine ⟨⟨sh, S4.tup hS⟩, forW_tup (xs := sh) (fun i σ H' => ∃ (q' : Nat) (u : Und) (v6 v7 : Option V), σ = [some (.ref kt), some (.ref st), some (.ref wt), some (.ref et), some (.int (q' : Int)), some (.ref u0), v6, v7] ∧ Same H H' ∧ ULAt H' u0 l1 l2 l3 u ∧ laidF kinds ws (sh.drop i) q' u = laidF kinds ws sh p ⟨[], [], []⟩ ∧ (u.hs.length ≤ i ∧ u.ns.length ≤ i ∧ u.vs.length ≤ i) ∧ UndW u ∧ ∃ d m, pend d ((sh.drop i).map arV) = some 0 ∧ eat d ((ws.drop q').map arV) = some m)
    ⟨p, ⟨[], [], []⟩, none, none, rfl, S4, U4, rfl, ⟨Nat.zero_le _, Nat.zero_le _, Nat.zero_le _⟩, ⟨(fun _ h => nomatch h), (fun _ h => nomatch h)⟩, 1, n, hTm, he⟩ (fun i σ H' _ h => by obtain ⟨_, _, _, _, _, s, _⟩ := h; exact s.tup hS) ?_ ?_⟩
  · rintro i v σ H5 hvi ⟨q', u, v6, v7, rfl, s5, U5, e5, hul, huw, d, m, hp5, he5⟩
    have hil : i < sh.length := (List.getElem?_eq_some_iff.mp hvi).1
    have ed : sh.drop i = v :: sh.drop (i + 1) := by
      rw [List.drop_eq_getElem_cons hil]
      congr 1
      rw [List.getElem?_eq_getElem hil] at hvi
      exact Option.some.inj hvi
    rw [ed] at e5 hp5
    obtain ⟨d', rfl⟩ : ∃ d', d = d' + 1 := by
      cases d with
      | zero => cases hp5
      | succ d' => exact ⟨d', rfl⟩
    have hq : q' < ws.length := by
      have a1 := eat_pos _ _ _ he5
      have a2 := eat_le _ _ _ he5
      rw [List.length_map, List.length_drop] at a2
      omega
    have hx : ws[q']? = some ws[q'] := List.getElem?_eq_getElem hq
    obtain ⟨hxw, hxa, hxv⟩ := tw.w _ (List.getElem_mem hq)
    have hat : atI ws (q' : Int) = some ws[q'] := atI_nat hx
    have hvw := hs v (List.mem_of_getElem? hvi)
    have hgd : ws.getD q' .non = ws[q'] := by rw [List.getD_eq_getElem?_getD, hx]; rfl
    rw [laidF_cons, hgd] at e5
    generalize ws[q'] = x at hx hxw hxa hxv hat hgd e5
    have hul' := u.put_len (letW kinds v) q' x hul
    have huw' := huw.put hxw (letW kinds v) q'
    obtain ⟨b1, b2, b3, b4, b5, b6⟩ := lets
    have fl : (kinds.map V.str).all flatV = true := List.all_eq_true.mpr fun x hx => by obtain ⟨z, _, rfl⟩ := List.mem_map.mp hx; rfl
    push_cast [rIn]
    refine ⟨wt, ws, _, x, rfl, rfl, s5.tup hW, hat, _, .inr (s5.tup hK), hvw.flat, fl, ?_⟩
    have nav : ¬ anyW = V.str (Str.ofString "var") := by decide +kernel
    have nva : ¬ varW = V.str (Str.ofString "any") := by decide +kernel
    rcases letW_cases (kinds := kinds) hvw with ⟨rfl, h⟩ | ⟨rfl, h⟩ | ⟨⟨z, hz, rfl⟩, h⟩ | ⟨h, hno⟩
    · rw [if_neg (by rw [show inV anyW (kinds.map V.str) = false from hk.out (.inl rfl)]; decide)]
      refine ⟨hvw.sc _, ?_⟩
      rw [if_pos (show anyW = V.str (Str.ofString "any") from rfl)]
      obtain ⟨k', rfl⟩ := hxw
      cases k' with
      | inl i0 =>
        have hli : lies (letW kinds anyW) anyW (kV (Sum.inl i0)) = true := by unfold lies; rw [h, if_neg b1, if_pos rfl]; rfl
        obtain ⟨d2, m2, hp6, he6⟩ := laid_step hk hvw hx ⟨_, rfl⟩ hp5 he5 hli
        rw [if_pos hli, h, if_neg b1] at e5
        rw [h, if_neg b1] at he6
        rw [h] at hul' huw'
        exact ⟨_, .int i0, true, rfl, iteT (rIxL_ok U5.1 rfl (append_ok U5.2.2.1 (by omega) ⟨q' + 1, by omega, s5.upd f2 _, _, U5.put2 n20 n21 n32 q' _, e5, hul'.1, hul'.2.1, hul'.2.2, huw', d2, hp6, m2, he6⟩))⟩
      | inr y =>
        have hli : ¬ lies (letW kinds anyW) anyW (kV (Sum.inr y)) = true := by unfold lies; rw [h, if_neg b1, if_pos rfl]; exact Bool.false_ne_true
        rw [if_neg hli] at e5
        have z := q H5 s5
        rw [← e5] at z
        refine ⟨_, .str y, false, rfl, iteF ⟨hvw.sc _, ?_⟩⟩
        rw [if_neg nav]
        refine ⟨hvw.sc2 ⟨_, rfl⟩, ?_⟩
        rw [if_neg fun e => hxa e.symm]
        exact z
    · rw [if_neg (by rw [show inV varW (kinds.map V.str) = false from hk.out (.inr rfl)]; decide)]
      refine ⟨hvw.sc _, ?_⟩
      rw [if_neg nva]
      refine ⟨hvw.sc _, ?_⟩
      rw [if_pos (show varW = V.str (Str.ofString "var") from rfl)]
      have hxw' := hxw
      obtain ⟨k', rfl⟩ := hxw
      cases k' with
      | inl i0 =>
        have hli : ¬ lies (letW kinds varW) varW (kV (Sum.inl i0)) = true := by unfold lies; rw [h, if_neg b2, if_neg b4, if_pos rfl]; exact Bool.false_ne_true
        rw [if_neg hli] at e5
        have z := q H5 s5
        rw [← e5] at z
        refine ⟨_, .int i0, false, rfl, iteF ⟨hvw.sc2 ⟨_, rfl⟩, ?_⟩⟩
        rw [if_neg fun e => hxv e.symm]
        exact z
      | inr y =>
        refine ⟨_, .str y, true, rfl, iteT ⟨by show (4 : Nat) ≤ sizeLine; decide, fun pl hpl => ⟨_, .inl (SqL.of upd_same), rfl, rfl, ?_⟩⟩⟩
        have four := four_in hxw'
        have s6 := s5.trans (same_new hpl (.lst [V.str (Str.ofString "add"), V.str (Str.ofString "sub"), V.str (Str.ofString "mul"), V.str (Str.ofString "neg")]))
        have U6 := U5.same (same_new hpl (.lst [V.str (Str.ofString "add"), V.str (Str.ofString "sub"), V.str (Str.ofString "mul"), V.str (Str.ofString "neg")]))
        by_cases c : 0 < arV (kV (Sum.inr y))
        · have hli : ¬ lies (letW kinds varW) varW (kV (Sum.inr y)) = true := by
            unfold lies
            rw [h, if_neg b2, if_neg b4, if_pos rfl, decide_eq_false (by omega), Bool.and_false]
            decide
          rw [if_neg hli] at e5
          have z := q _ s6
          rw [← e5] at z
          rw [if_neg (by rw [show inV (kV (Sum.inr y)) [V.str (Str.ofString "add"), V.str (Str.ofString "sub"), V.str (Str.ofString "mul"), V.str (Str.ofString "neg")] = true from four.mpr c]; decide)]
          refine ⟨hvw.sc2 ⟨_, rfl⟩, ?_⟩
          rw [if_neg fun e => hxv e.symm]
          exact z
        · have hli : lies (letW kinds varW) varW (kV (Sum.inr y)) = true := by
            unfold lies
            rw [h, if_neg b2, if_neg b4, if_pos rfl, decide_eq_true (by omega), Bool.and_true]
            rfl
          obtain ⟨d2, m2, hp6, he6⟩ := laid_step hk hvw hx ⟨_, rfl⟩ hp5 he5 hli
          rw [if_pos hli, h, if_neg b2] at e5
          rw [h, if_neg b2] at he6
          rw [h] at hul' huw'
          have c' : inV (kV (Sum.inr y)) [V.str (Str.ofString "add"), V.str (Str.ofString "sub"), V.str (Str.ofString "mul"), V.str (Str.ofString "neg")] = false := Bool.eq_false_iff.mpr fun e => c (four.mp e)
          rw [if_pos (by rw [c']; decide)]
          exact rIxL_ok U6.1 rfl (append_ok U6.2.2.2 (by omega) ⟨q' + 1, by omega, s6.upd f3 _, _, U6.put3 n30 n31 n32 q' _, e5, hul'.1, hul'.2.1, hul'.2.2, huw', d2, hp6, m2, he6⟩)
    · rw [if_pos (letH h)]
      have hli : lies (letW kinds (.str z)) (.str z) x = true := by unfold lies; rw [if_pos h]
      obtain ⟨d2, m2, hp6, he6⟩ := laid_step hk hvw hx hxw hp5 he5 hli
      rw [if_pos hli, if_pos h, h] at e5
      rw [if_pos h] at he6
      rw [h] at hul' huw'
      have nel : et ≠ l1 := ne_of_none hE h1
      refine rIxL_ok U5.1 rfl (append_ok U5.2.1 (by rw [List.length_map]; omega) (rIxL_ok (by rw [upd_ne nel]; exact s5 _ _ hE) (atI_nat (by rw [List.getElem?_map, List.getElem?_range hq]; rfl)) ⟨endAt ws q', rfl, s5.upd h1 _, _, U5.put1 n10 n21 n31 q' x, e5, hul'.1, hul'.2.1, hul'.2.2, huw', d2, hp6, m2, he6⟩))
    · obtain ⟨na, nv⟩ := letO h
      rw [if_neg (by rw [hno]; decide)]
      refine ⟨hvw.sc _, ?_⟩
      rw [if_neg (show ¬ v = V.str (Str.ofString "any") from na)]
      refine ⟨hvw.sc _, ?_⟩
      rw [if_neg (show ¬ v = V.str (Str.ofString "var") from nv)]
      refine ⟨hvw.sc2 hxw, ?_⟩
      by_cases c : v = x
      · have hli : lies (letW kinds v) v x = true := by unfold lies; rw [h, if_neg b3, if_neg b5, if_neg b6]; exact decide_eq_true c
        obtain ⟨d2, m2, hp6, he6⟩ := laid_step hk hvw hx hxw hp5 he5 hli
        rw [if_pos hli, h, if_neg b3, u.put0] at e5
        rw [h, if_neg b3] at he6
        rw [h, u.put0] at hul' huw'
        rw [if_pos c]
        exact ⟨q' + 1, by omega, s5, u, U5, e5, hul'.1, hul'.2.1, hul'.2.2, huw', d2, hp6, m2, he6⟩
      · have hli : ¬ lies (letW kinds v) v x = true := by unfold lies; rw [h, if_neg b3, if_neg b5, if_neg b6]; exact fun e => c (of_decide_eq_true e)
        rw [if_neg hli] at e5
        have z := q H5 s5
        rw [← e5] at z
        rw [if_neg c]
        exact z
  · rintro σ H5 ⟨q', u, v6, v7, rfl, s5, U5, e5, hul, huw, d, m, hp5, he5⟩
    rw [List.drop_length] at e5
    have z := q H5 s5
    rw [← e5] at z
    push_cast [and_true]
    refine rIxL_ok U5.1 rfl ⟨l1, rfl, _, .inl ⟨SqL.of U5.2.1, fun t1 ht1 => ?_⟩⟩
    have U6 := U5.same (same_new ht1 (.tup (u.hs.map plV)))
    refine rIxL_ok U6.1 rfl ⟨l2, rfl, _, .inl ⟨SqL.of U6.2.2.1, fun t2 ht2 => ?_⟩⟩
    have U7 := U6.same (same_new ht2 (.tup u.ns))
    refine rIxL_ok U7.1 rfl ⟨l3, rfl, _, .inl ⟨SqL.of U7.2.2.2, fun t3 ht3 => ⟨by show (3 : Nat) ≤ sizeLine; decide, fun t ht => ?_⟩⟩⟩
    exact z t _ ((same_new ht1 _).trans ((same_new ht2 _).trans ((same_new ht3 _).trans (same_new ht _)))) ⟨t1, t2, t3, upd_same, same_new ht _ _ _ (same_new ht3 _ _ _ (same_new ht2 _ _ _ upd_same)), same_new ht _ _ _ (same_new ht3 _ _ _ upd_same), same_new ht _ _ _ upd_same⟩ ⟨⟨huw.1, by omega⟩, ⟨huw.2, by omega⟩, by omega⟩
abbrev sSame0 : Stmt := top 12
theorem scSame0 : FnScope ["found", "due"] ["found", "due"] (defScope sSame0) := ⟨rfl, rfl, rfl, by decide +kernel, rfl, by decide +kernel, by decide +kernel⟩
theorem hasSame0 (G : Gs w K mg) (h_law_same : Has P w K mg base k "_law_same" ["found", "due"] spNever) (D : Def K mg "_law_same" sSame0 ["found", "due"]) : Has P w K mg base (k + 1) "_law_same" ["found", "due"] spSame0 := by
  refine D.has scSame0 (fun vs H Q E h => ?_) (fun f cdv A outer s H vs Q E hr h => ?_)
  · obtain ⟨_, rfl, _, _⟩ := h
    rfl
  have nd := scSame0.nd
  have hu := hu_of hr
  have hu0 := Nat.lt_of_succ_lt hu
  obtain ⟨v, rfl, hv, q⟩ := h
  have m_all := G.m_all
  have m_bool := G.m_bool
  have m_int := G.m_int
  have m_isinstance := G.m_isinstance
  have m_len := G.m_len
  have m_list := G.m_list
  have m_range := G.m_range
  have m_str := G.m_str
  have m_tuple := G.m_tuple
  refine ⟨_, (@pss_cons _ _ _ _ _ (@ps_if _ _ _ _ _ _ _ _ (@pt_val _ _ _ (@pe_callB _ _ _ _ _ _ _ _ _ (@call_isinstT _) rfl m_isinstance b_isinstance (@pa_cons _ _ _ _ _ (@pvD _ 1 _ _ (by rfl) (by first | exact Or.inl rfl | exact Or.inr (Or.inl rfl) | exact Or.inr (Or.inr rfl)) (by decide) (by decide)) (@pa_cons _ _ _ _ _ (@pe_tup _ _ _ _ _ (@pa_cons _ _ _ _ _ (@pe_gty _ _ _ _ m_tuple b_tuple (by rfl) (by decide +kernel) (by decide +kernel)) (@pa_cons _ _ _ _ _ (@pe_gty _ _ _ _ m_list b_list (by rfl) (by decide +kernel) (by decide +kernel)) (@pa_nil _) (by rfl)) (by rfl))) (@pa_nil _) (by rfl)) (by rfl)) (by decide) (by decide) (by rfl) (by rfl)) (by intro _; rfl)) (@pss_cons _ _ _ _ _ (@ps_if _ _ _ _ _ _ _ _ (@PW.pt _ _ _ (@pw_or _ _ _ _ _ _ _ (@pt_cmpR _ _ _ _ _ _ _ _ (@op_ne _) (@pe_callB _ _ _ _ _ _ _ _ _ (@call_isinst _) rfl m_isinstance b_isinstance (@pa_cons _ _ _ _ _ (@pvD _ 0 _ _ (by rfl) (by first | exact Or.inl rfl | exact Or.inr (Or.inl rfl) | exact Or.inr (Or.inr rfl)) (by decide) (by decide)) (@pa_cons _ _ _ _ _ (@pe_gty _ _ _ _ m_tuple b_tuple (by rfl) (by decide +kernel) (by decide +kernel)) (@pa_nil _) (by rfl)) (by rfl)) (by decide) (by decide) (by rfl) (by rfl)) (@pe_callB _ _ _ _ _ _ _ _ _ (@call_isinst _) rfl m_isinstance b_isinstance (@pa_cons _ _ _ _ _ (@pvD _ 1 _ _ (by rfl) (by first | exact Or.inl rfl | exact Or.inr (Or.inl rfl) | exact Or.inr (Or.inr rfl)) (by decide) (by decide)) (@pa_cons _ _ _ _ _ (@pe_gty _ _ _ _ m_tuple b_tuple (by rfl) (by decide +kernel) (by decide +kernel)) (@pa_nil _) (by rfl)) (by rfl)) (by decide) (by decide) (by rfl) (by rfl)) (@nomark _ _ (by decide) (by decide))) (@pw_or1 _ _ _ _ (@pt_not _ _ _ _ (@pt_val _ _ _ (@pe_callB _ _ _ _ _ _ _ _ _ (@call_isinstT _) rfl m_isinstance b_isinstance (@pa_cons _ _ _ _ _ (@pvD _ 0 _ _ (by rfl) (by first | exact Or.inl rfl | exact Or.inr (Or.inl rfl) | exact Or.inr (Or.inr rfl)) (by decide) (by decide)) (@pa_cons _ _ _ _ _ (@pe_tup _ _ _ _ _ (@pa_cons _ _ _ _ _ (@pe_gty _ _ _ _ m_tuple b_tuple (by rfl) (by decide +kernel) (by decide +kernel)) (@pa_cons _ _ _ _ _ (@pe_gty _ _ _ _ m_list b_list (by rfl) (by decide +kernel) (by decide +kernel)) (@pa_nil _) (by rfl)) (by rfl))) (@pa_nil _) (by rfl)) (by rfl)) (by decide) (by decide) (by rfl) (by rfl)) (by intro _; rfl)))))) (@pss_one _ _ _ (@ps_ret _ _ _ _ (@pe_bl _ _ _ _))) (@pss_nil _)) (@pss_one _ _ _ (@ps_ret _ _ _ _ (@pe_and _ _ _ _ _ _ _ (@pe_cmpR _ _ _ _ _ _ _ _ (@op_eq _) (@pe_callB _ _ _ _ _ _ _ _ _ (@call_len_seq _) rfl m_len b_len (@pa_cons _ _ _ _ _ (@pvD _ 0 _ _ (by rfl) (by first | exact Or.inl rfl | exact Or.inr (Or.inl rfl) | exact Or.inr (Or.inr rfl)) (by decide) (by decide)) (@pa_nil _) (by rfl)) (by decide) (by decide) (by rfl) (by rfl)) (@pe_callB _ _ _ _ _ _ _ _ _ (@call_len_seq _) rfl m_len b_len (@pa_cons _ _ _ _ _ (@pvD _ 1 _ _ (by rfl) (by first | exact Or.inl rfl | exact Or.inr (Or.inl rfl) | exact Or.inr (Or.inr rfl)) (by decide) (by decide)) (@pa_nil _) (by rfl)) (by decide) (by decide) (by rfl) (by rfl)) (@nomark _ _ (by decide) (by decide))) (@pe_one _ _ _ _ _ (@pe_callB _ _ _ _ _ _ _ _ _ (@call_all_list _ rfl) rfl m_all b_all (@pa_cons _ _ _ _ _ (@pe_lc _ _ _ _ _ _ _ _ _ _ _ _ _ _ _ (@ClOk.mk _ _ ["k"] ["found", "due"] [0, 1] _ rfl rfl rfl rfl (And.intro rfl (And.intro rfl trivial)) rfl (And.intro (And.intro rfl (And.intro rfl rfl)) (And.intro (And.intro rfl (And.intro rfl rfl)) trivial))) rfl (@pi_range1 _ _ _ _ _ _ rfl m_range (@pa_cons _ _ _ _ _ (@pe_callB _ _ _ _ _ _ _ _ _ (@call_len_seq _) rfl m_len b_len (@pa_cons _ _ _ _ _ (@pvD _ 1 _ _ (by rfl) (by first | exact Or.inl rfl | exact Or.inr (Or.inl rfl) | exact Or.inr (Or.inr rfl)) (by decide) (by decide)) (@pa_nil _) (by rfl)) (by decide) (by decide) (by rfl) (by rfl)) (@pa_nil _) (by rfl)) (by rfl)) (fun _ _ _ => (@pg_name _ _ 0 _ (show List.Nodup (["k", "found", "due"] : List Str) by decide +kernel) rfl (Or.inl rfl) (by first | exact .inl rfl | exact .inr rfl | assumption))) (fun _ _ _ => (@pif0 _)) (fun _ _ _ => (@pe_has _ _ _ _ _ _ _ _ _ _ h_law_same hr (@pa_cons _ _ _ _ _ (@pe_ix _ _ _ _ _ _ _ (@ix_tupK _ K rfl) (@pvD _ 1 _ _ (by rfl) (by first | exact Or.inl rfl | exact Or.inr (Or.inl rfl) | exact Or.inr (Or.inr rfl)) (by decide) (by decide)) (@pvD _ 0 _ _ (by rfl) (by first | exact Or.inl rfl | exact Or.inr (Or.inl rfl) | exact Or.inr (Or.inr rfl)) (by decide) (by decide)) (fun _ _ => rfl)) (@pa_cons _ _ _ _ _ (@pe_ix _ _ _ _ _ _ _ (@ix_tupK _ K rfl) (@pvD _ 2 _ _ (by rfl) (by first | exact Or.inl rfl | exact Or.inr (Or.inl rfl) | exact Or.inr (Or.inr rfl)) (by decide) (by decide)) (@pvD _ 0 _ _ (by rfl) (by first | exact Or.inl rfl | exact Or.inr (Or.inl rfl) | exact Or.inr (Or.inr rfl)) (by decide) (by decide)) (fun _ _ => rfl)) (@pa_nil _) (by rfl)) (by rfl)) (by rfl) (by decide +kernel) (by rfl) (by rfl))) (by intro _; rfl)) (@pa_nil _) (by rfl)) (by decide) (by decide) (by rfl) (by rfl))))))) (@pss_nil _)) (@pss_cons _ _ _ _ _ (@ps_if _ _ _ _ _ _ _ _ (@pt_val _ _ _ (@pe_callB _ _ _ _ _ _ _ _ _ (@call_isinst _) rfl m_isinstance b_isinstance (@pa_cons _ _ _ _ _ (@pvD _ 1 _ _ (by rfl) (by first | exact Or.inl rfl | exact Or.inr (Or.inl rfl) | exact Or.inr (Or.inr rfl)) (by decide) (by decide)) (@pa_cons _ _ _ _ _ (@pe_gty _ _ _ _ m_str b_str (by rfl) (by decide +kernel) (by decide +kernel)) (@pa_nil _) (by rfl)) (by rfl)) (by decide) (by decide) (by rfl) (by rfl)) (by intro _; rfl)) (@pss_one _ _ _ (@ps_ret _ _ _ _ (@pe_and _ _ _ _ _ _ _ (@pe_callB _ _ _ _ _ _ _ _ _ (@call_isinst _) rfl m_isinstance b_isinstance (@pa_cons _ _ _ _ _ (@pvD _ 0 _ _ (by rfl) (by first | exact Or.inl rfl | exact Or.inr (Or.inl rfl) | exact Or.inr (Or.inr rfl)) (by decide) (by decide)) (@pa_cons _ _ _ _ _ (@pe_gty _ _ _ _ m_str b_str (by rfl) (by decide +kernel) (by decide +kernel)) (@pa_nil _) (by rfl)) (by rfl)) (by decide) (by decide) (by rfl) (by rfl)) (@pe_one _ _ _ _ _ (@pe_cmpR _ _ _ _ _ _ _ _ (@op_eq _) (@pvD _ 0 _ _ (by rfl) (by first | exact Or.inl rfl | exact Or.inr (Or.inl rfl) | exact Or.inr (Or.inr rfl)) (by decide) (by decide)) (@pvD _ 1 _ _ (by rfl) (by first | exact Or.inl rfl | exact Or.inr (Or.inl rfl) | exact Or.inr (Or.inr rfl)) (by decide) (by decide)) (@nomark _ _ (by decide) (by decide))))))) (@pss_nil _)) (@pss_cons _ _ _ _ _ (@ps_if _ _ _ _ _ _ _ _ (@pt_val _ _ _ (@pe_callB _ _ _ _ _ _ _ _ _ (@call_isinst _) rfl m_isinstance b_isinstance (@pa_cons _ _ _ _ _ (@pvD _ 1 _ _ (by rfl) (by first | exact Or.inl rfl | exact Or.inr (Or.inl rfl) | exact Or.inr (Or.inr rfl)) (by decide) (by decide)) (@pa_cons _ _ _ _ _ (@pe_gty _ _ _ _ m_bool b_bool (by rfl) (by decide +kernel) (by decide +kernel)) (@pa_nil _) (by rfl)) (by rfl)) (by decide) (by decide) (by rfl) (by rfl)) (by intro _; rfl)) (@pss_one _ _ _ (@ps_ret _ _ _ _ (@pe_and _ _ _ _ _ _ _ (@pe_callB _ _ _ _ _ _ _ _ _ (@call_isinst _) rfl m_isinstance b_isinstance (@pa_cons _ _ _ _ _ (@pvD _ 0 _ _ (by rfl) (by first | exact Or.inl rfl | exact Or.inr (Or.inl rfl) | exact Or.inr (Or.inr rfl)) (by decide) (by decide)) (@pa_cons _ _ _ _ _ (@pe_gty _ _ _ _ m_bool b_bool (by rfl) (by decide +kernel) (by decide +kernel)) (@pa_nil _) (by rfl)) (by rfl)) (by decide) (by decide) (by rfl) (by rfl)) (@pe_one _ _ _ _ _ (@pe_cmpR _ _ _ _ _ _ _ _ (@op_eq _) (@pvD _ 0 _ _ (by rfl) (by first | exact Or.inl rfl | exact Or.inr (Or.inl rfl) | exact Or.inr (Or.inr rfl)) (by decide) (by decide)) (@pvD _ 1 _ _ (by rfl) (by first | exact Or.inl rfl | exact Or.inr (Or.inl rfl) | exact Or.inr (Or.inr rfl)) (by decide) (by decide)) (@nomark _ _ (by decide) (by decide))))))) (@pss_nil _)) (@pss_one _ _ _ (@ps_ret _ _ _ _ (@pe_and _ _ _ _ _ _ _ (@pe_callB _ _ _ _ _ _ _ _ _ (@call_isinst _) rfl m_isinstance b_isinstance (@pa_cons _ _ _ _ _ (@pvD _ 0 _ _ (by rfl) (by first | exact Or.inl rfl | exact Or.inr (Or.inl rfl) | exact Or.inr (Or.inr rfl)) (by decide) (by decide)) (@pa_cons _ _ _ _ _ (@pe_gty _ _ _ _ m_int b_int (by rfl) (by decide +kernel) (by decide +kernel)) (@pa_nil _) (by rfl)) (by rfl)) (by decide) (by decide) (by rfl) (by rfl)) (@pe_and _ _ _ _ _ _ _ (@pe_not _ _ _ _ (@pe_callB _ _ _ _ _ _ _ _ _ (@call_isinst _) rfl m_isinstance b_isinstance (@pa_cons _ _ _ _ _ (@pvD _ 0 _ _ (by rfl) (by first | exact Or.inl rfl | exact Or.inr (Or.inl rfl) | exact Or.inr (Or.inr rfl)) (by decide) (by decide)) (@pa_cons _ _ _ _ _ (@pe_gty _ _ _ _ m_bool b_bool (by rfl) (by decide +kernel) (by decide +kernel)) (@pa_nil _) (by rfl)) (by rfl)) (by decide) (by decide) (by rfl) (by rfl))) (@pe_one _ _ _ _ _ (@pe_cmpR _ _ _ _ _ _ _ _ (@op_eq _) (@pvD _ 0 _ _ (by rfl) (by first | exact Or.inl rfl | exact Or.inr (Or.inl rfl) | exact Or.inr (Or.inr rfl)) (by decide) (by decide)) (@pvD _ 1 _ _ (by rfl) (by first | exact Or.inl rfl | exact Or.inr (Or.inl rfl) | exact Or.inr (Or.inr rfl)) (by decide) (by decide)) (@nomark _ _ (by decide) (by decide))))))))))), ?_⟩
  rw [show start ["found", "due"] [v, v] = [some (v), some (v)] from rfl]
  clear hu hu0 nd hr
  push_cast [spSame0]
  refine ⟨by show (2 : Nat) ≤ sizeLine; decide, fun p hp => ⟨_, _, upd_same, ?_⟩⟩
  have qq := q _ (same_new hp (.tup [V.ty "tuple", V.ty "list"]))
  obtain ⟨k', rfl⟩ := hv
  cases k' with
  | inl i =>
    refine ⟨_, .int i, false, rfl, iteF ⟨_, .int i, false, rfl, iteF ⟨_, .int i, false, rfl, iteF ⟨_, .int i, true, rfl, iteT ⟨_, .int i, false, rfl, iteT ⟨rfl, ?_⟩⟩⟩⟩⟩⟩
    exact qq
  | inr z =>
    refine ⟨_, .str z, false, rfl, iteF ⟨_, .str z, true, rfl, iteT ⟨_, .str z, true, rfl, iteT ⟨rfl, ?_⟩⟩⟩⟩
    exact qq
abbrev sSame1 : Stmt := top 12
theorem scSame1 : FnScope ["found", "due"] ["found", "due"] (defScope sSame1) := ⟨rfl, rfl, rfl, by decide +kernel, rfl, by decide +kernel, by decide +kernel⟩
theorem hasSame1 (G : Gs w K mg) (h_law_same : Has P w K mg base k "_law_same" ["found", "due"] spSame0) (D : Def K mg "_law_same" sSame1 ["found", "due"]) : Has P w K mg base (k + 1) "_law_same" ["found", "due"] spSame1 := by
  refine D.has scSame1 (fun vs H Q E h => ?_) (fun f cdv A outer s H vs Q E hr h => ?_)
  · obtain ⟨_, _, _, rfl, _, _, _, _, _⟩ := h
    rfl
  have nd := scSame1.nd
  have hu := hu_of hr
  have hu0 := Nat.lt_of_succ_lt hu
  obtain ⟨f1, d, xs, rfl, hF, hD, hx, hl, q⟩ := h
  have m_all := G.m_all
  have m_bool := G.m_bool
  have m_int := G.m_int
  have m_isinstance := G.m_isinstance
  have m_len := G.m_len
  have m_list := G.m_list
  have m_range := G.m_range
  have m_str := G.m_str
  have m_tuple := G.m_tuple
  refine ⟨_, (@pss_cons _ _ _ _ _ (@ps_if _ _ _ _ _ _ _ _ (@pt_val _ _ _ (@pe_callB _ _ _ _ _ _ _ _ _ (@call_isinstT _) rfl m_isinstance b_isinstance (@pa_cons _ _ _ _ _ (@pvD _ 1 _ _ (by rfl) (by first | exact Or.inl rfl | exact Or.inr (Or.inl rfl) | exact Or.inr (Or.inr rfl)) (by decide) (by decide)) (@pa_cons _ _ _ _ _ (@pe_tup _ _ _ _ _ (@pa_cons _ _ _ _ _ (@pe_gty _ _ _ _ m_tuple b_tuple (by rfl) (by decide +kernel) (by decide +kernel)) (@pa_cons _ _ _ _ _ (@pe_gty _ _ _ _ m_list b_list (by rfl) (by decide +kernel) (by decide +kernel)) (@pa_nil _) (by rfl)) (by rfl))) (@pa_nil _) (by rfl)) (by rfl)) (by decide) (by decide) (by rfl) (by rfl)) (by intro _; rfl)) (@pss_cons _ _ _ _ _ (@ps_if _ _ _ _ _ _ _ _ (@PW.pt _ _ _ (@pw_or _ _ _ _ _ _ _ (@pt_cmpR _ _ _ _ _ _ _ _ (@op_ne _) (@pe_callB _ _ _ _ _ _ _ _ _ (@call_isinst _) rfl m_isinstance b_isinstance (@pa_cons _ _ _ _ _ (@pvD _ 0 _ _ (by rfl) (by first | exact Or.inl rfl | exact Or.inr (Or.inl rfl) | exact Or.inr (Or.inr rfl)) (by decide) (by decide)) (@pa_cons _ _ _ _ _ (@pe_gty _ _ _ _ m_tuple b_tuple (by rfl) (by decide +kernel) (by decide +kernel)) (@pa_nil _) (by rfl)) (by rfl)) (by decide) (by decide) (by rfl) (by rfl)) (@pe_callB _ _ _ _ _ _ _ _ _ (@call_isinst _) rfl m_isinstance b_isinstance (@pa_cons _ _ _ _ _ (@pvD _ 1 _ _ (by rfl) (by first | exact Or.inl rfl | exact Or.inr (Or.inl rfl) | exact Or.inr (Or.inr rfl)) (by decide) (by decide)) (@pa_cons _ _ _ _ _ (@pe_gty _ _ _ _ m_tuple b_tuple (by rfl) (by decide +kernel) (by decide +kernel)) (@pa_nil _) (by rfl)) (by rfl)) (by decide) (by decide) (by rfl) (by rfl)) (@nomark _ _ (by decide) (by decide))) (@pw_or1 _ _ _ _ (@pt_not _ _ _ _ (@pt_val _ _ _ (@pe_callB _ _ _ _ _ _ _ _ _ (@call_isinstT _) rfl m_isinstance b_isinstance (@pa_cons _ _ _ _ _ (@pvD _ 0 _ _ (by rfl) (by first | exact Or.inl rfl | exact Or.inr (Or.inl rfl) | exact Or.inr (Or.inr rfl)) (by decide) (by decide)) (@pa_cons _ _ _ _ _ (@pe_tup _ _ _ _ _ (@pa_cons _ _ _ _ _ (@pe_gty _ _ _ _ m_tuple b_tuple (by rfl) (by decide +kernel) (by decide +kernel)) (@pa_cons _ _ _ _ _ (@pe_gty _ _ _ _ m_list b_list (by rfl) (by decide +kernel) (by decide +kernel)) (@pa_nil _) (by rfl)) (by rfl))) (@pa_nil _) (by rfl)) (by rfl)) (by decide) (by decide) (by rfl) (by rfl)) (by intro _; rfl)))))) (@pss_one _ _ _ (@ps_ret _ _ _ _ (@pe_bl _ _ _ _))) (@pss_nil _)) (@pss_one _ _ _ (@ps_ret _ _ _ _ (@pe_and _ _ _ _ _ _ _ (@pe_cmpR _ _ _ _ _ _ _ _ (@op_eq _) (@pe_callB _ _ _ _ _ _ _ _ _ (@call_len_seq _) rfl m_len b_len (@pa_cons _ _ _ _ _ (@pvD _ 0 _ _ (by rfl) (by first | exact Or.inl rfl | exact Or.inr (Or.inl rfl) | exact Or.inr (Or.inr rfl)) (by decide) (by decide)) (@pa_nil _) (by rfl)) (by decide) (by decide) (by rfl) (by rfl)) (@pe_callB _ _ _ _ _ _ _ _ _ (@call_len_seq _) rfl m_len b_len (@pa_cons _ _ _ _ _ (@pvD _ 1 _ _ (by rfl) (by first | exact Or.inl rfl | exact Or.inr (Or.inl rfl) | exact Or.inr (Or.inr rfl)) (by decide) (by decide)) (@pa_nil _) (by rfl)) (by decide) (by decide) (by rfl) (by rfl)) (@nomark _ _ (by decide) (by decide))) (@pe_one _ _ _ _ _ (@pe_callB _ _ _ _ _ _ _ _ _ (@call_all_list _ rfl) rfl m_all b_all (@pa_cons _ _ _ _ _ (@pe_lc _ _ _ _ _ _ _ _ _ _ _ _ _ _ _ (@ClOk.mk _ _ ["k"] ["found", "due"] [0, 1] _ rfl rfl rfl rfl (And.intro rfl (And.intro rfl trivial)) rfl (And.intro (And.intro rfl (And.intro rfl rfl)) (And.intro (And.intro rfl (And.intro rfl rfl)) trivial))) rfl (@pi_range1 _ _ _ _ _ _ rfl m_range (@pa_cons _ _ _ _ _ (@pe_callB _ _ _ _ _ _ _ _ _ (@call_len_seq _) rfl m_len b_len (@pa_cons _ _ _ _ _ (@pvD _ 1 _ _ (by rfl) (by first | exact Or.inl rfl | exact Or.inr (Or.inl rfl) | exact Or.inr (Or.inr rfl)) (by decide) (by decide)) (@pa_nil _) (by rfl)) (by decide) (by decide) (by rfl) (by rfl)) (@pa_nil _) (by rfl)) (by rfl)) (fun _ _ _ => (@pg_name _ _ 0 _ (show List.Nodup (["k", "found", "due"] : List Str) by decide +kernel) rfl (Or.inl rfl) (by first | exact .inl rfl | exact .inr rfl | assumption))) (fun _ _ _ => (@pif0 _)) (fun _ _ _ => (@pe_has _ _ _ _ _ _ _ _ _ _ h_law_same hr (@pa_cons _ _ _ _ _ (@pe_ix _ _ _ _ _ _ _ (@ix_tupK _ K rfl) (@pvD _ 1 _ _ (by rfl) (by first | exact Or.inl rfl | exact Or.inr (Or.inl rfl) | exact Or.inr (Or.inr rfl)) (by decide) (by decide)) (@pvD _ 0 _ _ (by rfl) (by first | exact Or.inl rfl | exact Or.inr (Or.inl rfl) | exact Or.inr (Or.inr rfl)) (by decide) (by decide)) (fun _ _ => rfl)) (@pa_cons _ _ _ _ _ (@pe_ix _ _ _ _ _ _ _ (@ix_tupK _ K rfl) (@pvD _ 2 _ _ (by rfl) (by first | exact Or.inl rfl | exact Or.inr (Or.inl rfl) | exact Or.inr (Or.inr rfl)) (by decide) (by decide)) (@pvD _ 0 _ _ (by rfl) (by first | exact Or.inl rfl | exact Or.inr (Or.inl rfl) | exact Or.inr (Or.inr rfl)) (by decide) (by decide)) (fun _ _ => rfl)) (@pa_nil _) (by rfl)) (by rfl)) (by rfl) (by decide +kernel) (by rfl) (by rfl))) (by intro _; rfl)) (@pa_nil _) (by rfl)) (by decide) (by decide) (by rfl) (by rfl))))))) (@pss_nil _)) (@pss_cons _ _ _ _ _ (@ps_if _ _ _ _ _ _ _ _ (@pt_val _ _ _ (@pe_callB _ _ _ _ _ _ _ _ _ (@call_isinst _) rfl m_isinstance b_isinstance (@pa_cons _ _ _ _ _ (@pvD _ 1 _ _ (by rfl) (by first | exact Or.inl rfl | exact Or.inr (Or.inl rfl) | exact Or.inr (Or.inr rfl)) (by decide) (by decide)) (@pa_cons _ _ _ _ _ (@pe_gty _ _ _ _ m_str b_str (by rfl) (by decide +kernel) (by decide +kernel)) (@pa_nil _) (by rfl)) (by rfl)) (by decide) (by decide) (by rfl) (by rfl)) (by intro _; rfl)) (@pss_one _ _ _ (@ps_ret _ _ _ _ (@pe_and _ _ _ _ _ _ _ (@pe_callB _ _ _ _ _ _ _ _ _ (@call_isinst _) rfl m_isinstance b_isinstance (@pa_cons _ _ _ _ _ (@pvD _ 0 _ _ (by rfl) (by first | exact Or.inl rfl | exact Or.inr (Or.inl rfl) | exact Or.inr (Or.inr rfl)) (by decide) (by decide)) (@pa_cons _ _ _ _ _ (@pe_gty _ _ _ _ m_str b_str (by rfl) (by decide +kernel) (by decide +kernel)) (@pa_nil _) (by rfl)) (by rfl)) (by decide) (by decide) (by rfl) (by rfl)) (@pe_one _ _ _ _ _ (@pe_cmpR _ _ _ _ _ _ _ _ (@op_eq _) (@pvD _ 0 _ _ (by rfl) (by first | exact Or.inl rfl | exact Or.inr (Or.inl rfl) | exact Or.inr (Or.inr rfl)) (by decide) (by decide)) (@pvD _ 1 _ _ (by rfl) (by first | exact Or.inl rfl | exact Or.inr (Or.inl rfl) | exact Or.inr (Or.inr rfl)) (by decide) (by decide)) (@nomark _ _ (by decide) (by decide))))))) (@pss_nil _)) (@pss_cons _ _ _ _ _ (@ps_if _ _ _ _ _ _ _ _ (@pt_val _ _ _ (@pe_callB _ _ _ _ _ _ _ _ _ (@call_isinst _) rfl m_isinstance b_isinstance (@pa_cons _ _ _ _ _ (@pvD _ 1 _ _ (by rfl) (by first | exact Or.inl rfl | exact Or.inr (Or.inl rfl) | exact Or.inr (Or.inr rfl)) (by decide) (by decide)) (@pa_cons _ _ _ _ _ (@pe_gty _ _ _ _ m_bool b_bool (by rfl) (by decide +kernel) (by decide +kernel)) (@pa_nil _) (by rfl)) (by rfl)) (by decide) (by decide) (by rfl) (by rfl)) (by intro _; rfl)) (@pss_one _ _ _ (@ps_ret _ _ _ _ (@pe_and _ _ _ _ _ _ _ (@pe_callB _ _ _ _ _ _ _ _ _ (@call_isinst _) rfl m_isinstance b_isinstance (@pa_cons _ _ _ _ _ (@pvD _ 0 _ _ (by rfl) (by first | exact Or.inl rfl | exact Or.inr (Or.inl rfl) | exact Or.inr (Or.inr rfl)) (by decide) (by decide)) (@pa_cons _ _ _ _ _ (@pe_gty _ _ _ _ m_bool b_bool (by rfl) (by decide +kernel) (by decide +kernel)) (@pa_nil _) (by rfl)) (by rfl)) (by decide) (by decide) (by rfl) (by rfl)) (@pe_one _ _ _ _ _ (@pe_cmpR _ _ _ _ _ _ _ _ (@op_eq _) (@pvD _ 0 _ _ (by rfl) (by first | exact Or.inl rfl | exact Or.inr (Or.inl rfl) | exact Or.inr (Or.inr rfl)) (by decide) (by decide)) (@pvD _ 1 _ _ (by rfl) (by first | exact Or.inl rfl | exact Or.inr (Or.inl rfl) | exact Or.inr (Or.inr rfl)) (by decide) (by decide)) (@nomark _ _ (by decide) (by decide))))))) (@pss_nil _)) (@pss_one _ _ _ (@ps_ret _ _ _ _ (@pe_and _ _ _ _ _ _ _ (@pe_callB _ _ _ _ _ _ _ _ _ (@call_isinst _) rfl m_isinstance b_isinstance (@pa_cons _ _ _ _ _ (@pvD _ 0 _ _ (by rfl) (by first | exact Or.inl rfl | exact Or.inr (Or.inl rfl) | exact Or.inr (Or.inr rfl)) (by decide) (by decide)) (@pa_cons _ _ _ _ _ (@pe_gty _ _ _ _ m_int b_int (by rfl) (by decide +kernel) (by decide +kernel)) (@pa_nil _) (by rfl)) (by rfl)) (by decide) (by decide) (by rfl) (by rfl)) (@pe_and _ _ _ _ _ _ _ (@pe_not _ _ _ _ (@pe_callB _ _ _ _ _ _ _ _ _ (@call_isinst _) rfl m_isinstance b_isinstance (@pa_cons _ _ _ _ _ (@pvD _ 0 _ _ (by rfl) (by first | exact Or.inl rfl | exact Or.inr (Or.inl rfl) | exact Or.inr (Or.inr rfl)) (by decide) (by decide)) (@pa_cons _ _ _ _ _ (@pe_gty _ _ _ _ m_bool b_bool (by rfl) (by decide +kernel) (by decide +kernel)) (@pa_nil _) (by rfl)) (by rfl)) (by decide) (by decide) (by rfl) (by rfl))) (@pe_one _ _ _ _ _ (@pe_cmpR _ _ _ _ _ _ _ _ (@op_eq _) (@pvD _ 0 _ _ (by rfl) (by first | exact Or.inl rfl | exact Or.inr (Or.inl rfl) | exact Or.inr (Or.inr rfl)) (by decide) (by decide)) (@pvD _ 1 _ _ (by rfl) (by first | exact Or.inl rfl | exact Or.inr (Or.inl rfl) | exact Or.inr (Or.inr rfl)) (by decide) (by decide)) (@nomark _ _ (by decide) (by decide))))))))))), ?_⟩
  rw [show start ["found", "due"] [.ref f1, .ref d] = [some (.ref f1), some (.ref d)] from rfl]
  clear hu hu0 nd hr
  push_cast [spSame1]
  have sz := sizeLine_eq
  refine ⟨by show (2 : Nat) ≤ sizeLine; decide, fun p hp => ⟨_, _, upd_same, ?_⟩⟩
  have s1 := same_new hp (.tup [V.ty "tuple", V.ty "list"])
  refine ⟨_, .tup (s1 _ _ hD), true, rfl, iteT ⟨_, .tup (s1 _ _ hF), true, rfl, _, .tup (s1 _ _ hD), true, rfl, rfl, iteF ⟨by show (2 : Nat) ≤ sizeLine; decide, fun p1 hp1 => ⟨_, _, upd_same, ?_⟩⟩⟩⟩
  have s2 := s1.trans (same_new hp1 (.tup [V.ty "tuple", V.ty "list"]))
  generalize upd (upd H p (.tup [V.ty "tuple", V.ty "list"])) p1 (.tup [V.ty "tuple", V.ty "list"]) = H2 at s2 ⊢
  refine ⟨_, .tup (s2 _ _ hF), true, rfl, iteF ⟨xs, .inr (SqT.of (s2 _ _ hF)), xs, .inr (SqT.of (s2 _ _ hD)), rfl, ?_⟩⟩
  rw [if_pos rfl]
  refine ⟨xs, .inr (SqT.of (s2 _ _ hD)), by omega, by omega, fun L hL => ?_⟩
  refine lc_range (fun j ys => ys = List.replicate j (V.bl true)) (by omega) hL rfl (fun j ys H1 G' K' hj hP hl2 hS hG hK => ?_) fun ys H3 hP hl2 hS hL2 => ?_
  · push_cast [spSame0]
    have hj' : j < xs.length := by omega
    have hat : atI xs (0 + (j : Int)) = some xs[j] := by
      rw [show (0 + (j : Int)) = ((j : Nat) : Int) by omega]
      exact atI_nat (List.getElem?_eq_getElem hj')
    exact rIxT_ok (hS _ _ (s2 _ _ hF)) hat (rIxT_ok (hS _ _ (s2 _ _ hD)) hat ⟨rfl, hx _ (List.getElem_mem hj'), fun H' s' => hK _ _ s' (by rw [hP, ← List.replicate_succ'])⟩)
  · refine ⟨List.replicate ((xs.length : Nat) : Int).toNat true, SqL.of (by rw [hL2, hP, List.map_replicate]), ?_⟩
    rw [show (List.replicate ((xs.length : Nat) : Int).toNat true).all id = true by simp]
    exact q _ (s2.trans hS)
abbrev sSame2 : Stmt := top 12
theorem scSame2 : FnScope ["found", "due"] ["found", "due"] (defScope sSame2) := ⟨rfl, rfl, rfl, by decide +kernel, rfl, by decide +kernel, by decide +kernel⟩
theorem hasSame2 (G : Gs w K mg) (h_law_same : Has P w K mg base k "_law_same" ["found", "due"] spSame1) (D : Def K mg "_law_same" sSame2 ["found", "due"]) : Has P w K mg base (k + 1) "_law_same" ["found", "due"] spSame2 := by
  refine D.has scSame2 (fun vs H Q E h => ?_) (fun f cdv A outer s H vs Q E hr h => ?_)
  · obtain ⟨_, _, _, rfl, _, _, _, _⟩ := h
    rfl
  have nd := scSame2.nd
  have hu := hu_of hr
  have hu0 := Nat.lt_of_succ_lt hu
  obtain ⟨f1, d, u, rfl, hF, hD, ok, q⟩ := h
  have m_all := G.m_all
  have m_bool := G.m_bool
  have m_int := G.m_int
  have m_isinstance := G.m_isinstance
  have m_len := G.m_len
  have m_list := G.m_list
  have m_range := G.m_range
  have m_str := G.m_str
  have m_tuple := G.m_tuple
  refine ⟨_, (@pss_cons _ _ _ _ _ (@ps_if _ _ _ _ _ _ _ _ (@pt_val _ _ _ (@pe_callB _ _ _ _ _ _ _ _ _ (@call_isinstT _) rfl m_isinstance b_isinstance (@pa_cons _ _ _ _ _ (@pvD _ 1 _ _ (by rfl) (by first | exact Or.inl rfl | exact Or.inr (Or.inl rfl) | exact Or.inr (Or.inr rfl)) (by decide) (by decide)) (@pa_cons _ _ _ _ _ (@pe_tup _ _ _ _ _ (@pa_cons _ _ _ _ _ (@pe_gty _ _ _ _ m_tuple b_tuple (by rfl) (by decide +kernel) (by decide +kernel)) (@pa_cons _ _ _ _ _ (@pe_gty _ _ _ _ m_list b_list (by rfl) (by decide +kernel) (by decide +kernel)) (@pa_nil _) (by rfl)) (by rfl))) (@pa_nil _) (by rfl)) (by rfl)) (by decide) (by decide) (by rfl) (by rfl)) (by intro _; rfl)) (@pss_cons _ _ _ _ _ (@ps_if _ _ _ _ _ _ _ _ (@PW.pt _ _ _ (@pw_or _ _ _ _ _ _ _ (@pt_cmpR _ _ _ _ _ _ _ _ (@op_ne _) (@pe_callB _ _ _ _ _ _ _ _ _ (@call_isinst _) rfl m_isinstance b_isinstance (@pa_cons _ _ _ _ _ (@pvD _ 0 _ _ (by rfl) (by first | exact Or.inl rfl | exact Or.inr (Or.inl rfl) | exact Or.inr (Or.inr rfl)) (by decide) (by decide)) (@pa_cons _ _ _ _ _ (@pe_gty _ _ _ _ m_tuple b_tuple (by rfl) (by decide +kernel) (by decide +kernel)) (@pa_nil _) (by rfl)) (by rfl)) (by decide) (by decide) (by rfl) (by rfl)) (@pe_callB _ _ _ _ _ _ _ _ _ (@call_isinst _) rfl m_isinstance b_isinstance (@pa_cons _ _ _ _ _ (@pvD _ 1 _ _ (by rfl) (by first | exact Or.inl rfl | exact Or.inr (Or.inl rfl) | exact Or.inr (Or.inr rfl)) (by decide) (by decide)) (@pa_cons _ _ _ _ _ (@pe_gty _ _ _ _ m_tuple b_tuple (by rfl) (by decide +kernel) (by decide +kernel)) (@pa_nil _) (by rfl)) (by rfl)) (by decide) (by decide) (by rfl) (by rfl)) (@nomark _ _ (by decide) (by decide))) (@pw_or1 _ _ _ _ (@pt_not _ _ _ _ (@pt_val _ _ _ (@pe_callB _ _ _ _ _ _ _ _ _ (@call_isinstT _) rfl m_isinstance b_isinstance (@pa_cons _ _ _ _ _ (@pvD _ 0 _ _ (by rfl) (by first | exact Or.inl rfl | exact Or.inr (Or.inl rfl) | exact Or.inr (Or.inr rfl)) (by decide) (by decide)) (@pa_cons _ _ _ _ _ (@pe_tup _ _ _ _ _ (@pa_cons _ _ _ _ _ (@pe_gty _ _ _ _ m_tuple b_tuple (by rfl) (by decide +kernel) (by decide +kernel)) (@pa_cons _ _ _ _ _ (@pe_gty _ _ _ _ m_list b_list (by rfl) (by decide +kernel) (by decide +kernel)) (@pa_nil _) (by rfl)) (by rfl))) (@pa_nil _) (by rfl)) (by rfl)) (by decide) (by decide) (by rfl) (by rfl)) (by intro _; rfl)))))) (@pss_one _ _ _ (@ps_ret _ _ _ _ (@pe_bl _ _ _ _))) (@pss_nil _)) (@pss_one _ _ _ (@ps_ret _ _ _ _ (@pe_and _ _ _ _ _ _ _ (@pe_cmpR _ _ _ _ _ _ _ _ (@op_eq _) (@pe_callB _ _ _ _ _ _ _ _ _ (@call_len_seq _) rfl m_len b_len (@pa_cons _ _ _ _ _ (@pvD _ 0 _ _ (by rfl) (by first | exact Or.inl rfl | exact Or.inr (Or.inl rfl) | exact Or.inr (Or.inr rfl)) (by decide) (by decide)) (@pa_nil _) (by rfl)) (by decide) (by decide) (by rfl) (by rfl)) (@pe_callB _ _ _ _ _ _ _ _ _ (@call_len_seq _) rfl m_len b_len (@pa_cons _ _ _ _ _ (@pvD _ 1 _ _ (by rfl) (by first | exact Or.inl rfl | exact Or.inr (Or.inl rfl) | exact Or.inr (Or.inr rfl)) (by decide) (by decide)) (@pa_nil _) (by rfl)) (by decide) (by decide) (by rfl) (by rfl)) (@nomark _ _ (by decide) (by decide))) (@pe_one _ _ _ _ _ (@pe_callB _ _ _ _ _ _ _ _ _ (@call_all_list _ rfl) rfl m_all b_all (@pa_cons _ _ _ _ _ (@pe_lc _ _ _ _ _ _ _ _ _ _ _ _ _ _ _ (@ClOk.mk _ _ ["k"] ["found", "due"] [0, 1] _ rfl rfl rfl rfl (And.intro rfl (And.intro rfl trivial)) rfl (And.intro (And.intro rfl (And.intro rfl rfl)) (And.intro (And.intro rfl (And.intro rfl rfl)) trivial))) rfl (@pi_range1 _ _ _ _ _ _ rfl m_range (@pa_cons _ _ _ _ _ (@pe_callB _ _ _ _ _ _ _ _ _ (@call_len_seq _) rfl m_len b_len (@pa_cons _ _ _ _ _ (@pvD _ 1 _ _ (by rfl) (by first | exact Or.inl rfl | exact Or.inr (Or.inl rfl) | exact Or.inr (Or.inr rfl)) (by decide) (by decide)) (@pa_nil _) (by rfl)) (by decide) (by decide) (by rfl) (by rfl)) (@pa_nil _) (by rfl)) (by rfl)) (fun _ _ _ => (@pg_name _ _ 0 _ (show List.Nodup (["k", "found", "due"] : List Str) by decide +kernel) rfl (Or.inl rfl) (by first | exact .inl rfl | exact .inr rfl | assumption))) (fun _ _ _ => (@pif0 _)) (fun _ _ _ => (@pe_has _ _ _ _ _ _ _ _ _ _ h_law_same hr (@pa_cons _ _ _ _ _ (@pe_ix _ _ _ _ _ _ _ (@ix_tupK _ K rfl) (@pvD _ 1 _ _ (by rfl) (by first | exact Or.inl rfl | exact Or.inr (Or.inl rfl) | exact Or.inr (Or.inr rfl)) (by decide) (by decide)) (@pvD _ 0 _ _ (by rfl) (by first | exact Or.inl rfl | exact Or.inr (Or.inl rfl) | exact Or.inr (Or.inr rfl)) (by decide) (by decide)) (fun _ _ => rfl)) (@pa_cons _ _ _ _ _ (@pe_ix _ _ _ _ _ _ _ (@ix_tupK _ K rfl) (@pvD _ 2 _ _ (by rfl) (by first | exact Or.inl rfl | exact Or.inr (Or.inl rfl) | exact Or.inr (Or.inr rfl)) (by decide) (by decide)) (@pvD _ 0 _ _ (by rfl) (by first | exact Or.inl rfl | exact Or.inr (Or.inl rfl) | exact Or.inr (Or.inr rfl)) (by decide) (by decide)) (fun _ _ => rfl)) (@pa_nil _) (by rfl)) (by rfl)) (by rfl) (by decide +kernel) (by rfl) (by rfl))) (by intro _; rfl)) (@pa_nil _) (by rfl)) (by decide) (by decide) (by rfl) (by rfl))))))) (@pss_nil _)) (@pss_cons _ _ _ _ _ (@ps_if _ _ _ _ _ _ _ _ (@pt_val _ _ _ (@pe_callB _ _ _ _ _ _ _ _ _ (@call_isinst _) rfl m_isinstance b_isinstance (@pa_cons _ _ _ _ _ (@pvD _ 1 _ _ (by rfl) (by first | exact Or.inl rfl | exact Or.inr (Or.inl rfl) | exact Or.inr (Or.inr rfl)) (by decide) (by decide)) (@pa_cons _ _ _ _ _ (@pe_gty _ _ _ _ m_str b_str (by rfl) (by decide +kernel) (by decide +kernel)) (@pa_nil _) (by rfl)) (by rfl)) (by decide) (by decide) (by rfl) (by rfl)) (by intro _; rfl)) (@pss_one _ _ _ (@ps_ret _ _ _ _ (@pe_and _ _ _ _ _ _ _ (@pe_callB _ _ _ _ _ _ _ _ _ (@call_isinst _) rfl m_isinstance b_isinstance (@pa_cons _ _ _ _ _ (@pvD _ 0 _ _ (by rfl) (by first | exact Or.inl rfl | exact Or.inr (Or.inl rfl) | exact Or.inr (Or.inr rfl)) (by decide) (by decide)) (@pa_cons _ _ _ _ _ (@pe_gty _ _ _ _ m_str b_str (by rfl) (by decide +kernel) (by decide +kernel)) (@pa_nil _) (by rfl)) (by rfl)) (by decide) (by decide) (by rfl) (by rfl)) (@pe_one _ _ _ _ _ (@pe_cmpR _ _ _ _ _ _ _ _ (@op_eq _) (@pvD _ 0 _ _ (by rfl) (by first | exact Or.inl rfl | exact Or.inr (Or.inl rfl) | exact Or.inr (Or.inr rfl)) (by decide) (by decide)) (@pvD _ 1 _ _ (by rfl) (by first | exact Or.inl rfl | exact Or.inr (Or.inl rfl) | exact Or.inr (Or.inr rfl)) (by decide) (by decide)) (@nomark _ _ (by decide) (by decide))))))) (@pss_nil _)) (@pss_cons _ _ _ _ _ (@ps_if _ _ _ _ _ _ _ _ (@pt_val _ _ _ (@pe_callB _ _ _ _ _ _ _ _ _ (@call_isinst _) rfl m_isinstance b_isinstance (@pa_cons _ _ _ _ _ (@pvD _ 1 _ _ (by rfl) (by first | exact Or.inl rfl | exact Or.inr (Or.inl rfl) | exact Or.inr (Or.inr rfl)) (by decide) (by decide)) (@pa_cons _ _ _ _ _ (@pe_gty _ _ _ _ m_bool b_bool (by rfl) (by decide +kernel) (by decide +kernel)) (@pa_nil _) (by rfl)) (by rfl)) (by decide) (by decide) (by rfl) (by rfl)) (by intro _; rfl)) (@pss_one _ _ _ (@ps_ret _ _ _ _ (@pe_and _ _ _ _ _ _ _ (@pe_callB _ _ _ _ _ _ _ _ _ (@call_isinst _) rfl m_isinstance b_isinstance (@pa_cons _ _ _ _ _ (@pvD _ 0 _ _ (by rfl) (by first | exact Or.inl rfl | exact Or.inr (Or.inl rfl) | exact Or.inr (Or.inr rfl)) (by decide) (by decide)) (@pa_cons _ _ _ _ _ (@pe_gty _ _ _ _ m_bool b_bool (by rfl) (by decide +kernel) (by decide +kernel)) (@pa_nil _) (by rfl)) (by rfl)) (by decide) (by decide) (by rfl) (by rfl)) (@pe_one _ _ _ _ _ (@pe_cmpR _ _ _ _ _ _ _ _ (@op_eq _) (@pvD _ 0 _ _ (by rfl) (by first | exact Or.inl rfl | exact Or.inr (Or.inl rfl) | exact Or.inr (Or.inr rfl)) (by decide) (by decide)) (@pvD _ 1 _ _ (by rfl) (by first | exact Or.inl rfl | exact Or.inr (Or.inl rfl) | exact Or.inr (Or.inr rfl)) (by decide) (by decide)) (@nomark _ _ (by decide) (by decide))))))) (@pss_nil _)) (@pss_one _ _ _ (@ps_ret _ _ _ _ (@pe_and _ _ _ _ _ _ _ (@pe_callB _ _ _ _ _ _ _ _ _ (@call_isinst _) rfl m_isinstance b_isinstance (@pa_cons _ _ _ _ _ (@pvD _ 0 _ _ (by rfl) (by first | exact Or.inl rfl | exact Or.inr (Or.inl rfl) | exact Or.inr (Or.inr rfl)) (by decide) (by decide)) (@pa_cons _ _ _ _ _ (@pe_gty _ _ _ _ m_int b_int (by rfl) (by decide +kernel) (by decide +kernel)) (@pa_nil _) (by rfl)) (by rfl)) (by decide) (by decide) (by rfl) (by rfl)) (@pe_and _ _ _ _ _ _ _ (@pe_not _ _ _ _ (@pe_callB _ _ _ _ _ _ _ _ _ (@call_isinst _) rfl m_isinstance b_isinstance (@pa_cons _ _ _ _ _ (@pvD _ 0 _ _ (by rfl) (by first | exact Or.inl rfl | exact Or.inr (Or.inl rfl) | exact Or.inr (Or.inr rfl)) (by decide) (by decide)) (@pa_cons _ _ _ _ _ (@pe_gty _ _ _ _ m_bool b_bool (by rfl) (by decide +kernel) (by decide +kernel)) (@pa_nil _) (by rfl)) (by rfl)) (by decide) (by decide) (by rfl) (by rfl))) (@pe_one _ _ _ _ _ (@pe_cmpR _ _ _ _ _ _ _ _ (@op_eq _) (@pvD _ 0 _ _ (by rfl) (by first | exact Or.inl rfl | exact Or.inr (Or.inl rfl) | exact Or.inr (Or.inr rfl)) (by decide) (by decide)) (@pvD _ 1 _ _ (by rfl) (by first | exact Or.inl rfl | exact Or.inr (Or.inl rfl) | exact Or.inr (Or.inr rfl)) (by decide) (by decide)) (@nomark _ _ (by decide) (by decide))))))))))), ?_⟩
  rw [show start ["found", "due"] [.ref f1, .ref d] = [some (.ref f1), some (.ref d)] from rfl]
  clear hu hu0 nd hr
  push_cast [spSame2]
  have sz := sizeLine_eq
  obtain ⟨a1, a2, a3, hF, x1, x2, x3⟩ := hF
  obtain ⟨c1, c2, c3, hD, y1, y2, y3⟩ := hD
  refine ⟨by show (2 : Nat) ≤ sizeLine; decide, fun p hp => ⟨_, _, upd_same, ?_⟩⟩
  have s1 := same_new hp (.tup [V.ty "tuple", V.ty "list"])
  refine ⟨_, .tup (s1 _ _ hD), true, rfl, iteT ⟨_, .tup (s1 _ _ hF), true, rfl, _, .tup (s1 _ _ hD), true, rfl, rfl, iteF ⟨by show (2 : Nat) ≤ sizeLine; decide, fun p1 hp1 => ⟨_, _, upd_same, ?_⟩⟩⟩⟩
  have s2 := s1.trans (same_new hp1 (.tup [V.ty "tuple", V.ty "list"]))
  generalize upd (upd H p (.tup [V.ty "tuple", V.ty "list"])) p1 (.tup [V.ty "tuple", V.ty "list"]) = H2 at s2 ⊢
  refine ⟨_, .tup (s2 _ _ hF), true, rfl, iteF ⟨_, .inr (SqT.of (s2 _ _ hF)), _, .inr (SqT.of (s2 _ _ hD)), rfl, ?_⟩⟩
  rw [if_pos (show (([V.ref a1, V.ref a2, V.ref a3] : List V).length : Int) = (([V.ref c1, V.ref c2, V.ref c3] : List V).length : Int) from rfl)]
  refine ⟨_, .inr (SqT.of (s2 _ _ hD)), by show -4611686018427387904 ≤ (3 : Int); decide, by show (3 : Int) < 4611686018427387904; decide, fun L hL => ?_⟩
  refine lc_range (n := 3) (fun j ys => ys = List.replicate j (V.bl true)) (by omega) hL rfl (fun j ys H1 G' K' hj hP hl2 hS hG hK => ?_) fun ys H3 hP hl2 hS hL2 => ?_
  · push_cast [spSame1]
    have nx : ∀ H', Same H1 H' → K' (V.bl true) H' := fun H' s' => hK _ _ s' (by rw [hP, ← List.replicate_succ'])
    have hF1 := hS _ _ (s2 _ _ hF)
    have hD1 := hS _ _ (s2 _ _ hD)
    have pl : ∀ v ∈ u.hs.map plV, isW v := fun v hv => by obtain ⟨q', _, rfl⟩ := List.mem_map.mp hv; exact ⟨Sum.inl _, rfl⟩
    rw [show (0 + (j : Int)) = ((j : Nat) : Int) by omega]
    rcases j with _ | _ | _ | j
    · exact rIxT_ok hF1 (atI_nat rfl) (rIxT_ok hD1 (atI_nat rfl) ⟨a1, rfl, c1, rfl, _, hS _ _ (s2 _ _ x1), hS _ _ (s2 _ _ y1), pl, by rw [List.length_map]; exact ok.h, nx⟩)
    · exact rIxT_ok hF1 (atI_nat rfl) (rIxT_ok hD1 (atI_nat rfl) ⟨a2, rfl, c2, rfl, _, hS _ _ (s2 _ _ x2), hS _ _ (s2 _ _ y2), ok.n.1, ok.n.2, nx⟩)
    · exact rIxT_ok hF1 (atI_nat rfl) (rIxT_ok hD1 (atI_nat rfl) ⟨a3, rfl, c3, rfl, _, hS _ _ (s2 _ _ x3), hS _ _ (s2 _ _ y3), ok.v.1, ok.v.2, nx⟩)
    · omega
  · refine ⟨List.replicate 3 true, SqL.of (by rw [hL2, hP]; rfl), ?_⟩
    exact q _ (s2.trans hS)
abbrev sSame : Stmt := sSame2
theorem scSame : FnScope ["found", "due"] ["found", "due"] (defScope sSame) := scSame2
theorem hasNever (D : Def K mg "_law_same" sSame2 ["found", "due"]) : Has P w K mg base (k + 1) "_law_same" ["found", "due"] spNever := D.has scSame2 (fun vs H Q E h => h.elim) (fun f cdv A outer s H vs Q E hr h => h.elim)
theorem hasSame (G : Gs w K mg) (D : Def K mg "_law_same" sSame2 ["found", "due"]) : Has P w K mg base (k + 4) "_law_same" ["found", "due"] spSame2 := hasSame2 (k := k + 3) G (hasSame1 (k := k + 2) G (hasSame0 (k := k + 1) G (hasNever D) D) D) D
abbrev sTold : Stmt := top 22
theorem scTold : FnScope ["book", "words", "place", "ends", "rule", "due", "found"] ["book", "words", "place", "ends"] (defScope sTold) := ⟨rfl, rfl, rfl, by decide +kernel, rfl, by decide +kernel, by decide +kernel⟩
theorem hasTold (G : Gs w K mg) (h_law_laid : Has P w K mg base k "_law_laid" ["kinds", "shape", "words", "ends", "place"] (spLLaid K)) (h_law_same : Has P w K mg base k "_law_same" ["found", "due"] spSame2) (h_fit : Has P w K mg base k "fit" ["book", "rule", "words", "place"] spFit) (D : Def K mg "_law_told" sTold ["book", "words", "place", "ends"]) : Has P w K mg base (k + 1) "_law_told" ["book", "words", "place", "ends"] spTold := by
  refine D.has scTold (fun vs H Q E h => ?_) (fun f cdv A outer s H vs Q E hr h => ?_)
  · obtain ⟨_, _, _, _, _, _, _, rfl, _, _, _, _, _, _, _⟩ := h
    rfl
  have nd := scTold.nd
  have hu := hu_of hr
  have hu0 := Nat.lt_of_succ_lt hu
  obtain ⟨b, wt, et, kinds, rs, ws, p, rfl, hB, hW, hE, bk, tw, hp, q⟩ := h
  refine ⟨_, (@pss_cons _ _ _ _ _ (@ps_for _ _ _ _ _ _ _ _ PassesOwn.never rfl (@pi_tup _ _ _ _ (@pe_ix _ _ _ _ _ _ _ (@ix_tup _) (@pvD _ 0 _ _ (by rfl) (by first | exact Or.inl rfl | exact Or.inr (Or.inl rfl) | exact Or.inr (Or.inr rfl)) (by decide) (by decide)) (@pe_int _ _ _ _) (fun _ _ => rfl))) (@pg_name _ _ 4 _ nd rfl (by first | exact Or.inl rfl | exact Or.inr rfl) (by first | exact .inl rfl | exact .inr rfl | assumption)) (@pss_cons _ _ _ _ _ (@ps_set _ _ 5 _ _ _ _ nd rfl (by first | exact Or.inl rfl | exact Or.inr rfl) (@pe_has _ _ _ _ _ _ _ _ _ _ h_law_laid hr (@pa_cons _ _ _ _ _ (@pe_ix _ _ _ _ _ _ _ (@ix_tup _) (@pvD _ 0 _ _ (by rfl) (by first | exact Or.inl rfl | exact Or.inr (Or.inl rfl) | exact Or.inr (Or.inr rfl)) (by decide) (by decide)) (@pe_int _ _ _ _) (fun _ _ => rfl)) (@pa_cons _ _ _ _ _ (@pe_ix _ _ _ _ _ _ _ (@ix_tup _) (@pvD _ 4 _ _ (by rfl) (by first | exact Or.inl rfl | exact Or.inr (Or.inl rfl) | exact Or.inr (Or.inr rfl)) (by decide) (by decide)) (@pe_int _ _ _ _) (fun _ _ => rfl)) (@pa_cons _ _ _ _ _ (@pvD _ 1 _ _ (by rfl) (by first | exact Or.inl rfl | exact Or.inr (Or.inl rfl) | exact Or.inr (Or.inr rfl)) (by decide) (by decide)) (@pa_cons _ _ _ _ _ (@pvD _ 3 _ _ (by rfl) (by first | exact Or.inl rfl | exact Or.inr (Or.inl rfl) | exact Or.inr (Or.inr rfl)) (by decide) (by decide)) (@pa_cons _ _ _ _ _ (@pvD _ 2 _ _ (by rfl) (by first | exact Or.inl rfl | exact Or.inr (Or.inl rfl) | exact Or.inr (Or.inr rfl)) (by decide) (by decide)) (@pa_nil _) (by rfl)) (by rfl)) (by rfl)) (by rfl)) (by rfl)) (by rfl) (by decide +kernel) (by rfl) (by rfl)) (by rfl) (by first | exact .inl rfl | exact .inr rfl | assumption)) (@pss_cons _ _ _ _ _ (@ps_set _ _ 6 _ _ _ _ nd rfl (by first | exact Or.inl rfl | exact Or.inr rfl) (@pe_has _ _ _ _ _ _ _ _ _ _ h_fit hr (@pa_cons _ _ _ _ _ (@pvD _ 0 _ _ (by rfl) (by first | exact Or.inl rfl | exact Or.inr (Or.inl rfl) | exact Or.inr (Or.inr rfl)) (by decide) (by decide)) (@pa_cons _ _ _ _ _ (@pe_ix _ _ _ _ _ _ _ (@ix_tup _) (@pvD _ 4 _ _ (by rfl) (by first | exact Or.inl rfl | exact Or.inr (Or.inl rfl) | exact Or.inr (Or.inr rfl)) (by decide) (by decide)) (@pe_int _ _ _ _) (fun _ _ => rfl)) (@pa_cons _ _ _ _ _ (@pvD _ 1 _ _ (by rfl) (by first | exact Or.inl rfl | exact Or.inr (Or.inl rfl) | exact Or.inr (Or.inr rfl)) (by decide) (by decide)) (@pa_cons _ _ _ _ _ (@pvD _ 2 _ _ (by rfl) (by first | exact Or.inl rfl | exact Or.inr (Or.inl rfl) | exact Or.inr (Or.inr rfl)) (by decide) (by decide)) (@pa_nil _) (by rfl)) (by rfl)) (by rfl)) (by rfl)) (by rfl) (by decide +kernel) (by rfl) (by rfl)) (by rfl) (by first | exact .inl rfl | exact .inr rfl | assumption)) (@pss_one _ _ _ (@ps_if _ _ _ _ _ _ _ _ (@pt_cmp _ _ _ _ _ _ (@pc_isN _ _ _ _ _ (@pvD _ 5 _ _ (by rfl) (by first | exact Or.inl rfl | exact Or.inr (Or.inl rfl) | exact Or.inr (Or.inr rfl)) (by decide) (by decide))) (by first | exact nobehind _ (by decide) (by decide) | rfl)) (@pss_one _ _ _ (@ps_if _ _ _ _ _ _ _ _ (@pt_cmp _ _ _ _ _ _ (@pc_notN _ _ _ _ _ (@pvD _ 6 _ _ (by rfl) (by first | exact Or.inl rfl | exact Or.inr (Or.inl rfl) | exact Or.inr (Or.inr rfl)) (by decide) (by decide))) (by first | exact nobehind _ (by decide) (by decide) | rfl)) (@pss_one _ _ _ (@ps_ret _ _ _ _ (@pe_bl _ _ _ _))) (@pss_nil _))) (@pss_one _ _ _ (@ps_if _ _ _ _ _ _ _ _ (@pt_not _ _ _ _ (@pt_val _ _ _ (@pe_has _ _ _ _ _ _ _ _ _ _ h_law_same hr (@pa_cons _ _ _ _ _ (@pvD _ 6 _ _ (by rfl) (by first | exact Or.inl rfl | exact Or.inr (Or.inl rfl) | exact Or.inr (Or.inr rfl)) (by decide) (by decide)) (@pa_cons _ _ _ _ _ (@pvD _ 5 _ _ (by rfl) (by first | exact Or.inl rfl | exact Or.inr (Or.inl rfl) | exact Or.inr (Or.inr rfl)) (by decide) (by decide)) (@pa_nil _) (by rfl)) (by rfl)) (by rfl) (by decide +kernel) (by rfl) (by rfl)) (by intro _; rfl))) (@pss_one _ _ _ (@ps_ret _ _ _ _ (@pe_bl _ _ _ _))) (@pss_nil _))))))) (by intro _; rfl)) (@pss_one _ _ _ (@ps_ret _ _ _ _ (@pe_bl _ _ _ _)))), ?_⟩
  rw [show start ["book", "words", "place", "ends", "rule", "due", "found"] [.ref b, .ref wt, .int (p : Int), .ref et] = [some (.ref b), some (.ref wt), some (.int (p : Int)), some (.ref et), none, none, none] from rfl]
  clear hu hu0 nd hr
  push_cast [spLLaid, spSame2, spFit]
  have hB' := hB
  obtain ⟨kt, rt, ra, hb, hkt, hrt, hRA⟩ := hB
  refine ⟨b, _, 1, .ref rt, rfl, rfl, SqT.of hb, rfl, rt, rfl, ⟨_, SqT.of hrt⟩, ?_⟩
  refine forW_tup (xs := ra.map V.ref) (fun j σ H' => ∃ v4 v5 v6 : Option V, σ = [some (.ref b), some (.ref wt), some (.int (p : Int)), some (.ref et), v4, v5, v6] ∧ Same H H') ⟨none, none, none, rfl, Same.refl _⟩ (fun j σ H' _ h => by obtain ⟨_, _, _, _, s⟩ := h; exact SqT.of (s _ _ hrt)) ?_ ?_
  · rintro j y σ H5 hy ⟨v4, v5, v6, rfl, s5⟩
    rw [List.getElem?_map] at hy
    obtain ⟨aj, haj, rfl⟩ := Option.map_eq_some_iff.mp hy
    have hjl : j < rs.length := by rw [← hRA.1]; exact (List.getElem?_eq_some_iff.mp haj).1
    obtain ⟨rj, hrj⟩ : ∃ rj, rs[j]? = some rj := ⟨_, List.getElem?_eq_getElem hjl⟩
    obtain ⟨a', ha', sa, da, ds, g1, g2, g3⟩ := hRA.2 j rj hrj
    obtain rfl : a' = aj := Option.some.inj (ha'.symm.trans haj)
    obtain ⟨s1, s2, s3⟩ := bk.sh rj (List.mem_of_getElem? hrj)
    push_cast [spLLaid, spFit, spSame2, tIsN, tNotN]
    refine rIxT_ok (s5 _ _ hb) rfl (rIxT_ok (s5 _ _ g1) rfl ⟨sa, kt, rfl, rfl, rj.shape, kinds, ws, p, rfl, SqT.of (s5 _ _ g2), SqT.of (s5 _ _ hkt), SqT.of (s5 _ _ hW), s5 _ _ hE, bk.kd, s1, s2, by omega, tw, hp, fun H6 s6 => ?_⟩)
    have S6 := s5.trans s6
    cases hr : laidF kinds ws rj.shape p ⟨[], [], []⟩ with
    | none =>
      refine told_none (rIxT_ok (S6 _ _ g1) rfl ⟨wt, kinds, rs, ws, p, j, rj, rfl, rfl, rfl, hB'.same S6, S6 _ _ hW, bk, tw, hp, hrj, fun H7 s7 => ?_⟩)
      rw [hr]
      refine told_none ?_
      rw [if_pos rfl, if_neg (by simp)]
      exact S6.trans s7
    | some u =>
      intro t7 H7 s7 hu ok
      have S7 := S6.trans s7
      refine rIxT_ok (S7 _ _ g1) rfl ⟨wt, kinds, rs, ws, p, j, rj, rfl, rfl, rfl, hB'.same S7, S7 _ _ hW, bk, tw, hp, hrj, fun H8 s8 => ?_⟩
      rw [hr]
      intro t9 H9 s9 hu9 ok9
      show if V.ref t7 = V.non then _ else _
      rw [if_neg (by intro e; cases e)]
      exact ⟨t9, rfl, t7, rfl, u, hu9, (hu.same s8).same s9, ok, fun H10 s10 => iteF (((S7.trans s8).trans s9).trans s10)⟩
  · rintro σ H5 ⟨v4, v5, v6, rfl, s5⟩
    push_cast [and_true]
    exact q _ s5
abbrev sTerm : Stmt := top 17
theorem scTerm : FnScope ["deck", "names", "most", "words", "due", "cell", "more", "room", "far"] ["deck", "names", "most"] (defScope sTerm) := ⟨rfl, rfl, rfl, by decide +kernel, rfl, by decide +kernel, by decide +kernel⟩
theorem hasTerm (G : Gs w K mg) (h_law_next : Has P w K mg base k "_law_next" ["deck"] spNext) (D : Def K mg "_law_term" sTerm ["deck", "names", "most"]) : Has P w K mg base (k + 1) "_law_term" ["deck", "names", "most"] spTermT := by
  refine D.has scTerm (fun vs H Q E h => ?_) (fun f cdv A outer s H vs Q E hr h => ?_)
  · obtain ⟨_, _, _, _, _, _, _, rfl, _, _, _, _, _, _⟩ := h
    rfl
  have nd := scTerm.nd
  have hu := hu_of hr
  have hu0 := Nat.lt_of_succ_lt hu
  obtain ⟨d, nl, b, ns, zs, m, n, rfl, hD, hN, h1, h2, hn, q⟩ := h
  have m_len := G.m_len
  have m_tuple := G.m_tuple
  refine ⟨_, (@pss_cons _ _ _ _ _ (@ps_set _ _ 3 _ _ _ _ nd rfl (by first | exact Or.inl rfl | exact Or.inr rfl) (@pe_lst _ _ _ _ (@pa_nil _)) (by rfl) (by first | exact .inl rfl | exact .inr rfl | assumption)) (@pss_cons _ _ _ _ _ (@ps_set _ _ 4 _ _ _ _ nd rfl (by first | exact Or.inl rfl | exact Or.inr rfl) (@pe_int _ _ _ _) (by rfl) (by first | exact .inl rfl | exact .inr rfl | assumption)) (@pss_cons _ _ _ _ _ (@ps_while _ _ _ _ _ _ PassesOwn.never (@pt_cmpR _ _ _ _ _ _ _ _ (@op_gt _) (@pvD _ 4 _ _ (by rfl) (by first | exact Or.inl rfl | exact Or.inr (Or.inl rfl) | exact Or.inr (Or.inr rfl)) (by decide) (by decide)) (@pe_int _ _ _ _) (@nomark _ _ (by decide) (by decide))) (@pss_cons _ _ _ _ _ (@ps_set _ _ 5 _ _ _ _ nd rfl (by first | exact Or.inl rfl | exact Or.inr rfl) (@pe_has _ _ _ _ _ _ _ _ _ _ h_law_next hr (@pa_cons _ _ _ _ _ (@pvD _ 0 _ _ (by rfl) (by first | exact Or.inl rfl | exact Or.inr (Or.inl rfl) | exact Or.inr (Or.inr rfl)) (by decide) (by decide)) (@pa_nil _) (by rfl)) (by rfl) (by decide +kernel) (by rfl) (by rfl)) (by rfl) (by first | exact .inl rfl | exact .inr rfl | assumption)) (@pss_cons _ _ _ _ _ (@ps_set _ _ 6 _ _ _ _ nd rfl (by first | exact Or.inl rfl | exact Or.inr rfl) (@pe_op _ _ _ _ _ _ _ _ (@op_fdiv _) (@pvD _ 5 _ _ (by rfl) (by first | exact Or.inl rfl | exact Or.inr (Or.inl rfl) | exact Or.inr (Or.inr rfl)) (by decide) (by decide)) (@pe_int _ _ _ _)) (by rfl) (by first | exact .inl rfl | exact .inr rfl | assumption)) (@pss_cons _ _ _ _ _ (@ps_set _ _ 7 _ _ _ _ nd rfl (by first | exact Or.inl rfl | exact Or.inr rfl) (@pe_op _ _ _ _ _ _ _ _ (@op_sub _) (@pe_op _ _ _ _ _ _ _ _ (@op_sub _) (@pvD _ 2 _ _ (by rfl) (by first | exact Or.inl rfl | exact Or.inr (Or.inl rfl) | exact Or.inr (Or.inr rfl)) (by decide) (by decide)) (@pe_callB _ _ _ _ _ _ _ _ _ (@call_len_seq _) rfl m_len b_len (@pa_cons _ _ _ _ _ (@pvD _ 3 _ _ (by rfl) (by first | exact Or.inl rfl | exact Or.inr (Or.inl rfl) | exact Or.inr (Or.inr rfl)) (by decide) (by decide)) (@pa_nil _) (by rfl)) (by decide) (by decide) (by rfl) (by rfl))) (@pvD _ 4 _ _ (by rfl) (by first | exact Or.inl rfl | exact Or.inr (Or.inl rfl) | exact Or.inr (Or.inr rfl)) (by decide) (by decide))) (by rfl) (by first | exact .inl rfl | exact .inr rfl | assumption)) (@pss_one _ _ _ (@ps_if _ _ _ _ _ _ _ _ (@PW.pt _ _ _ (@pw_and _ _ _ _ _ _ _ (@pt_cmpR _ _ _ _ _ _ _ _ (@op_lt _) (@pe_op _ _ _ _ _ _ _ _ (@op_mod _) (@pvD _ 5 _ _ (by rfl) (by first | exact Or.inl rfl | exact Or.inr (Or.inl rfl) | exact Or.inr (Or.inr rfl)) (by decide) (by decide)) (@pe_int _ _ _ _)) (@pe_int _ _ _ _) (@nomark _ _ (by decide) (by decide))) (@pw_and1 _ _ _ _ (@pt_cmpR _ _ _ _ _ _ _ _ (@op_gt _) (@pvD _ 7 _ _ (by rfl) (by first | exact Or.inl rfl | exact Or.inr (Or.inl rfl) | exact Or.inr (Or.inr rfl)) (by decide) (by decide)) (@pe_int _ _ _ _) (@nomark _ _ (by decide) (by decide)))))) (@pss_cons _ _ _ _ _ (@ps_expr _ _ _ _ (@pe_bm _ _ _ _ _ _ _ _ _ _ _ _ PySem.F.plainAttrs_list PySem.F.slot_list_append PySem.F.type_list_append (@mt_append _) (@pvD _ 3 _ _ (by rfl) (by first | exact Or.inl rfl | exact Or.inr (Or.inl rfl) | exact Or.inr (Or.inr rfl)) (by decide) (by decide)) (@pa_cons _ _ _ _ _ (@pe_ix _ _ _ _ _ _ _ (@ix_list _) (@pe_lst _ _ _ _ (@pa_const _ _ _ (@CsOk.str _ _ _ _ _ (@CsOk.str _ _ _ _ _ (@CsOk.str _ _ _ _ _ (@CsOk.nil)))))) (@pe_op _ _ _ _ _ _ _ _ (@op_mod _) (@pvD _ 5 _ _ (by rfl) (by first | exact Or.inl rfl | exact Or.inr (Or.inl rfl) | exact Or.inr (Or.inr rfl)) (by decide) (by decide)) (@pe_int _ _ _ _)) (fun _ _ => rfl)) (@pa_nil _) (by rfl)) (by rfl) (by rfl) (by rfl) (by rfl) (by rfl)) (by rfl)) (@pss_one _ _ _ (@ps_set _ _ 4 _ _ _ _ nd rfl (by first | exact Or.inl rfl | exact Or.inr rfl) (@pe_op _ _ _ _ _ _ _ _ (@op_add _) (@pvD _ 4 _ _ (by rfl) (by first | exact Or.inl rfl | exact Or.inr (Or.inl rfl) | exact Or.inr (Or.inr rfl)) (by decide) (by decide)) (@pe_int _ _ _ _)) (by rfl) (by first | exact .inl rfl | exact .inr rfl | assumption)))) (@pss_one _ _ _ (@ps_if _ _ _ _ _ _ _ _ (@PW.pt _ _ _ (@pw_and _ _ _ _ _ _ _ (@pt_cmpR _ _ _ _ _ _ _ _ (@op_eq _) (@pe_op _ _ _ _ _ _ _ _ (@op_mod _) (@pvD _ 5 _ _ (by rfl) (by first | exact Or.inl rfl | exact Or.inr (Or.inl rfl) | exact Or.inr (Or.inr rfl)) (by decide) (by decide)) (@pe_int _ _ _ _)) (@pe_int _ _ _ _) (@nomark _ _ (by decide) (by decide))) (@pw_and1 _ _ _ _ (@pt_cmpR _ _ _ _ _ _ _ _ (@op_gt _) (@pvD _ 7 _ _ (by rfl) (by first | exact Or.inl rfl | exact Or.inr (Or.inl rfl) | exact Or.inr (Or.inr rfl)) (by decide) (by decide)) (@pe_int _ _ _ _) (@nomark _ _ (by decide) (by decide)))))) (@pss_one _ _ _ (@ps_expr _ _ _ _ (@pe_bm _ _ _ _ _ _ _ _ _ _ _ _ PySem.F.plainAttrs_list PySem.F.slot_list_append PySem.F.type_list_append (@mt_append _) (@pvD _ 3 _ _ (by rfl) (by first | exact Or.inl rfl | exact Or.inr (Or.inl rfl) | exact Or.inr (Or.inr rfl)) (by decide) (by decide)) (@pa_cons _ _ _ _ _ (@pe_str _ _ _ _) (@pa_nil _) (by rfl)) (by rfl) (by rfl) (by rfl) (by rfl) (by rfl)) (by rfl))) (@pss_cons _ _ _ _ _ (@ps_set _ _ 4 _ _ _ _ nd rfl (by first | exact Or.inl rfl | exact Or.inr rfl) (@pe_op _ _ _ _ _ _ _ _ (@op_sub _) (@pvD _ 4 _ _ (by rfl) (by first | exact Or.inl rfl | exact Or.inr (Or.inl rfl) | exact Or.inr (Or.inr rfl)) (by decide) (by decide)) (@pe_int _ _ _ _)) (by rfl) (by first | exact .inl rfl | exact .inr rfl | assumption)) (@pss_cons _ _ _ _ _ (@ps_set _ _ 8 _ _ _ _ nd rfl (by first | exact Or.inl rfl | exact Or.inr rfl) (@pe_ix _ _ _ _ _ _ _ (@ix_list _) (@pe_lst _ _ _ _ (@pa_cons _ _ _ _ _ (@pe_int _ _ _ _) (@pa_cons _ _ _ _ _ (@pe_int _ _ _ _) (@pa_cons _ _ _ _ _ (@pe_int _ _ _ _) (@pa_cons _ _ _ _ _ (@pe_op _ _ _ _ _ _ _ _ (@op_pow _) (@pe_int _ _ _ _) (@pe_int _ _ _ _)) (@pa_cons _ _ _ _ _ (@pe_op _ _ _ _ _ _ _ _ (@op_pow _) (@pe_int _ _ _ _) (@pe_int _ _ _ _)) (@pa_cons _ _ _ _ _ (@pe_op _ _ _ _ _ _ _ _ (@op_pow _) (@pe_int _ _ _ _) (@pe_int _ _ _ _)) (@pa_nil _) (by rfl)) (by rfl)) (by rfl)) (by rfl)) (by rfl)) (by rfl))) (@pe_op _ _ _ _ _ _ _ _ (@op_mod _) (@pe_op _ _ _ _ _ _ _ _ (@op_fdiv _) (@pvD _ 6 _ _ (by rfl) (by first | exact Or.inl rfl | exact Or.inr (Or.inl rfl) | exact Or.inr (Or.inr rfl)) (by decide) (by decide)) (@pe_int _ _ _ _)) (@pe_int _ _ _ _)) (fun _ _ => rfl)) (by rfl) (by first | exact .inl rfl | exact .inr rfl | assumption)) (@pss_cons _ _ _ _ _ (@ps_set _ _ 8 _ _ _ _ nd rfl (by first | exact Or.inl rfl | exact Or.inr rfl) (@pe_ix _ _ _ _ _ _ _ (@ix_list _) (@pe_lst _ _ _ _ (@pa_cons _ _ _ _ _ (@pe_op _ _ _ _ _ _ _ _ (@op_sub _) (@pe_op _ _ _ _ _ _ _ _ (@op_mod _) (@pe_op _ _ _ _ _ _ _ _ (@op_fdiv _) (@pvD _ 6 _ _ (by rfl) (by first | exact Or.inl rfl | exact Or.inr (Or.inl rfl) | exact Or.inr (Or.inr rfl)) (by decide) (by decide)) (@pe_int _ _ _ _)) (@pe_op _ _ _ _ _ _ _ _ (@op_pow _) (@pe_int _ _ _ _) (@pe_int _ _ _ _))) (@pe_int _ _ _ _)) (@pa_cons _ _ _ _ _ (@pvD _ 8 _ _ (by rfl) (by first | exact Or.inl rfl | exact Or.inr (Or.inl rfl) | exact Or.inr (Or.inr rfl)) (by decide) (by decide)) (@pa_cons _ _ _ _ _ (@pe_op _ _ _ _ _ _ _ _ (@op_sub _) (@pe_int _ _ _ _) (@pvD _ 8 _ _ (by rfl) (by first | exact Or.inl rfl | exact Or.inr (Or.inl rfl) | exact Or.inr (Or.inr rfl)) (by decide) (by decide))) (@pa_nil _) (by rfl)) (by rfl)) (by rfl))) (@pe_op _ _ _ _ _ _ _ _ (@op_mod _) (@pe_op _ _ _ _ _ _ _ _ (@op_fdiv _) (@pvD _ 6 _ _ (by rfl) (by first | exact Or.inl rfl | exact Or.inr (Or.inl rfl) | exact Or.inr (Or.inr rfl)) (by decide) (by decide)) (@pe_int _ _ _ _)) (@pe_int _ _ _ _)) (fun _ _ => rfl)) (by rfl) (by first | exact .inl rfl | exact .inr rfl | assumption)) (@pss_one _ _ _ (@ps_expr _ _ _ _ (@pe_bm _ _ _ _ _ _ _ _ _ _ _ _ PySem.F.plainAttrs_list PySem.F.slot_list_append PySem.F.type_list_append (@mt_append _) (@pvD _ 3 _ _ (by rfl) (by first | exact Or.inl rfl | exact Or.inr (Or.inl rfl) | exact Or.inr (Or.inr rfl)) (by decide) (by decide)) (@pa_cons _ _ _ _ _ (@pe_ix _ _ _ _ _ _ _ (@ix_list _) (@pe_lst _ _ _ _ (@pa_cons _ _ _ _ _ (@pe_ix _ _ _ _ _ _ _ (@ix_list _) (@pvD _ 1 _ _ (by rfl) (by first | exact Or.inl rfl | exact Or.inr (Or.inl rfl) | exact Or.inr (Or.inr rfl)) (by decide) (by decide)) (@pe_int _ _ _ _) (fun _ _ => rfl)) (@pa_cons _ _ _ _ _ (@pe_ix _ _ _ _ _ _ _ (@ix_list _) (@pvD _ 1 _ _ (by rfl) (by first | exact Or.inl rfl | exact Or.inr (Or.inl rfl) | exact Or.inr (Or.inr rfl)) (by decide) (by decide)) (@pe_int _ _ _ _) (fun _ _ => rfl)) (@pa_cons _ _ _ _ _ (@pe_ix _ _ _ _ _ _ _ (@ix_list _) (@pvD _ 1 _ _ (by rfl) (by first | exact Or.inl rfl | exact Or.inr (Or.inl rfl) | exact Or.inr (Or.inr rfl)) (by decide) (by decide)) (@pe_int _ _ _ _) (fun _ _ => rfl)) (@pa_cons _ _ _ _ _ (@pe_int _ _ _ _) (@pa_cons _ _ _ _ _ (@pe_int _ _ _ _) (@pa_cons _ _ _ _ _ (@pe_un _ _ _ _ _ _ (@un_neg _) (@pe_int _ _ _ _)) (@pa_cons _ _ _ _ _ (@pe_int _ _ _ _) (@pa_cons _ _ _ _ _ (@pvD _ 8 _ _ (by rfl) (by first | exact Or.inl rfl | exact Or.inr (Or.inl rfl) | exact Or.inr (Or.inr rfl)) (by decide) (by decide)) (@pa_cons _ _ _ _ _ (@pvD _ 8 _ _ (by rfl) (by first | exact Or.inl rfl | exact Or.inr (Or.inl rfl) | exact Or.inr (Or.inr rfl)) (by decide) (by decide)) (@pa_nil _) (by rfl)) (by rfl)) (by rfl)) (by rfl)) (by rfl)) (by rfl)) (by rfl)) (by rfl)) (by rfl))) (@pe_op _ _ _ _ _ _ _ _ (@op_mod _) (@pvD _ 6 _ _ (by rfl) (by first | exact Or.inl rfl | exact Or.inr (Or.inl rfl) | exact Or.inr (Or.inr rfl)) (by decide) (by decide)) (@pe_int _ _ _ _)) (fun _ _ => rfl)) (@pa_nil _) (by rfl)) (by rfl) (by rfl) (by rfl) (by rfl) (by rfl)) (by rfl)))))))))))))) (@pss_one _ _ _ (@ps_ret _ _ _ _ (@pe_callTy _ _ _ _ _ _ _ _ _ (@call_tuple_of _) rfl m_tuple b_tuple (@pa_cons _ _ _ _ _ (@pvD _ 3 _ _ (by rfl) (by first | exact Or.inl rfl | exact Or.inr (Or.inl rfl) | exact Or.inr (Or.inr rfl)) (by decide) (by decide)) (@pa_nil _) (by rfl)) (by decide) (by decide) (by rfl) (by rfl))))))), ?_⟩
  rw [show start ["deck", "names", "most", "words", "due", "cell", "more", "room", "far"] [.ref d, .ref nl, .int (m : Int)] = [some (.ref d), some (.ref nl), some (.int (m : Int)), none, none, none, none, none, none] from rfl]
  clear hu hu0 nd hr
  push_cast [spNext]
  have sz := sizeLine_eq
  refine ⟨Nat.zero_le _, fun p hp => ?_⟩
  have npd : p ≠ d := (ne_of_none hD.1 hp).symm
  refine while_by (fun σ H' => ∃ (ws : List V) (due : Nat) (v1 v2 v3 v4 : Option V), σ = [some (.ref d), some (.ref nl), some (.int (m : Int)), some (.ref p), some (.int (due : Int)), v1, v2, v3, v4] ∧ SameB d H H' ∧ H' d = some (.lst [.ref b, .int ((n + ws.length : Nat) : Int)]) ∧ H' p = some (.lst ws) ∧ (∀ v ∈ ws, twW v) ∧ pend 1 (ws.map arV) = some due ∧ ws.length + due ≤ m)
    (fun σ H' => m - lenAt H' p) ?_ ?_ ?_
  · exact ⟨[], 1, none, none, none, none, rfl, (SameB.refl d H).upd hp _, same_new hp _ _ _ hD.1, upd_same, (fun _ h => nomatch h), rfl, by show 0 + 1 ≤ m; omega⟩
  · rintro σ H' ⟨ws, due, v1, v2, v3, v4, rfl, hS, hD', hp', hw, hpd, hr⟩
    push_cast [spNext, CDiv, CPow]
    have hDk : Deck H' d b ns (n + ws.length) := hD.next hS hD'
    refine ite2 (fun hdue => ⟨b, ns, _, hDk, by omega, fun c H1 s1 d1 => ?_⟩) fun hdue => ?_
    · have hp1' : H1 p = some (.lst ws) := s1 p _ npd hp'
      have hN1 := hN.sameB hD (hS.trans s1)
      have at' : ∀ i : Nat, i < 60 → atI (zs.map V.str) (i : Int) = some (.str (zs.getD i "")) := fun i hi => atI_nat (by rw [List.getElem?_map, List.getD_eq_getElem?_getD, List.getElem?_eq_getElem (by rw [hN.2.1]; exact hi)]; rfl)
      have ok' : ∀ i : Nat, i < 60 → nmOk (zs.getD i "") := fun i hi => by
        rw [List.getD_eq_getElem?_getD, List.getElem?_eq_getElem (by rw [hN.2.1]; exact hi)]
        exact hN.2.2.2 _ (List.getElem_mem _)
      have app : ∀ (v : V) (H2 : Hp) (dd : Int), twW v → dd = (due : Int) - 1 + (arV v : Int) → ws.length + due + arV v ≤ m → Same H1 H2 →
          rAppend (.ref p) [v] H2 fun _ H3 => (∃ ws due_1, dd = ((due_1 : Nat) : Int) ∧ SameB d H H3 ∧ H3 d = some (.lst [.ref b, .int ((n + ws.length : Nat) : Int)]) ∧ H3 p = some (.lst ws) ∧ (∀ v ∈ ws, twW v) ∧ pend 1 (ws.map arV) = some due_1 ∧ ws.length + due_1 ≤ m) ∧ m - lenAt H3 p < m - lenAt H' p := by
        intro v H2 dd hv hdd hroom s2
        have hp2 := s2 _ _ hp1'
        refine ⟨p, ws, v, rfl, rfl, hp2, by omega, ⟨ws ++ [v], due - 1 + arV v, by omega, (hS.trans (s1.trans (SameB.of s2))).upd hp _, ?_, upd_same, fun x hx => ?_, ?_, ?_⟩, ?_⟩
        · rw [upd_ne npd.symm, List.length_append]
          exact s2 _ _ d1
        · rcases List.mem_append.mp hx with h | h
          · exact hw x h
          · rw [List.mem_singleton.mp h]; exact hv
        · rw [List.map_append]
          exact pend_snoc _ _ _ _ hpd (by omega)
        · rw [List.length_append, List.length_singleton]; omega
        · rw [lenAt_of upd_same, lenAt_of hp', List.length_append, List.length_singleton]; omega
      refine ⟨ws, .inl (SqL.of hp1'), ite2 (fun c3 => ite2 (fun r1 => ⟨tyV_list hp1', by show (3 : Nat) ≤ sizeLine; decide, fun p2 hp2 => ?_⟩) fun r1 => ⟨rfl, ite2 (fun e4 => by omega) fun e4 => ?_⟩) fun c3 => ⟨rfl, ite2 (fun e4 => ite2 (fun r0 => ⟨tyV_list hp1', ?_⟩) fun r0 => ?_) fun e4 => ?_⟩⟩
      · obtain ⟨y, hy, hym⟩ := atI_in [V.str (Str.ofString "add"), V.str (Str.ofString "sub"), V.str (Str.ofString "mul")] (c % 7) (Int.emod_nonneg _ (by decide)) (by show c % 7 < 3; omega)
        obtain ⟨z, rfl, a2⟩ : ∃ z, y = V.str z ∧ arS z = 2 := by
          simp only [List.mem_cons, List.not_mem_nil, or_false] at hym
          rcases hym with rfl | rfl | rfl
          · exact ⟨_, rfl, by decide +kernel⟩
          · exact ⟨_, rfl, by decide +kernel⟩
          · exact ⟨_, rfl, by decide +kernel⟩
        have a2' : arV (.str z) = 2 := a2
        exact rIxL_ok upd_same hy (app (.str z) _ ((due : Int) + 1) (twW_op (by omega)) (by rw [a2']; omega) (by rw [a2']; omega) (same_new hp2 _))
      · refine ⟨by decide, by decide, by decide, by show (6 : Nat) ≤ sizeLine; decide, fun p1 hp1 => ?_⟩
        obtain ⟨f1, hf1, hm1⟩ := atI_in [V.int 3, V.int 7, V.int 41, V.int (10 ^ Int.toNat 3), V.int (10 ^ Int.toNat 9), V.int (10 ^ Int.toNat 29)] (c / 7 / 27 % 6) (Int.emod_nonneg _ (by decide)) (by show c / 7 / 27 % 6 < 6; omega)
        obtain ⟨i1, rfl⟩ : ∃ i, f1 = V.int i := by
          simp only [List.mem_cons, List.not_mem_nil, or_false] at hm1
          rcases hm1 with rfl | rfl | rfl | rfl | rfl | rfl <;> exact ⟨_, rfl⟩
        refine rIxL_ok upd_same hf1 ⟨by decide, by decide +kernel, i1, rfl, by show (3 : Nat) ≤ sizeLine; decide, fun p2 hp2 => ?_⟩
        obtain ⟨f2, hf2, hm2⟩ := atI_in [V.int (c / 7 / 9 % 10 ^ Int.toNat 20 - 7), V.int i1, V.int (0 - i1)] (c / 7 / 9 % 3) (Int.emod_nonneg _ (by decide)) (by show c / 7 / 9 % 3 < 3; omega)
        obtain ⟨i2, rfl⟩ : ∃ i, f2 = V.int i := by
          simp only [List.mem_cons, List.not_mem_nil, or_false] at hm2
          rcases hm2 with rfl | rfl | rfl <;> exact ⟨_, rfl⟩
        have s2 := (same_new hp1 (.lst [V.int 3, V.int 7, V.int 41, V.int (10 ^ Int.toNat 3), V.int (10 ^ Int.toNat 9), V.int (10 ^ Int.toNat 29)])).trans (same_new hp2 (.lst [V.int (c / 7 / 9 % 10 ^ Int.toNat 20 - 7), V.int i1, V.int (0 - i1)]))
        refine rIxL_ok upd_same hf2 ⟨tyV_list (s2 _ _ hp1'), rIxL_ok (s2 _ _ hN1.1) (at' 0 (by decide)) (rIxL_ok (s2 _ _ hN1.1) (at' 50 (by decide)) (rIxL_ok (s2 _ _ hN1.1) (at' 51 (by decide)) ⟨by show (9 : Nat) ≤ sizeLine; decide, fun p3 hp3 => ?_⟩))⟩
        obtain ⟨f3, hf3, hm3⟩ := atI_in [V.str (zs.getD 0 ""), V.str (zs.getD 50 ""), V.str (zs.getD 51 ""), V.int 0, V.int 2, V.int (-1), V.int 5, V.int i2, V.int i2] (c / 7 % 9) (Int.emod_nonneg _ (by decide)) (by show c / 7 % 9 < 9; omega)
        obtain ⟨t3, a3⟩ : twW f3 ∧ arV f3 = 0 := by
          simp only [List.mem_cons, List.not_mem_nil, or_false] at hm3
          rcases hm3 with rfl | rfl | rfl | rfl | rfl | rfl | rfl | rfl | rfl
          · exact ⟨twW_name (ok' 0 (by decide)), (ok' 0 (by decide)).1⟩
          · exact ⟨twW_name (ok' 50 (by decide)), (ok' 50 (by decide)).1⟩
          · exact ⟨twW_name (ok' 51 (by decide)), (ok' 51 (by decide)).1⟩
          all_goals exact ⟨twW_int _, rfl⟩
        exact rIxL_ok upd_same hf3 (app f3 _ ((due : Int) - 1) t3 (by rw [a3]; omega) (by rw [a3]; omega) (s2.trans (same_new hp3 _)))
      · have an : arV (.str (Str.ofString "neg")) = 1 := ar_neg
        exact app (.str (Str.ofString "neg")) H1 (due : Int) (twW_op (by decide +kernel)) (by rw [an]; omega) (by rw [an]; omega) (Same.refl _)
      · refine ⟨by decide, by decide, by decide, by show (6 : Nat) ≤ sizeLine; decide, fun p1 hp1 => ?_⟩
        obtain ⟨f1, hf1, hm1⟩ := atI_in [V.int 3, V.int 7, V.int 41, V.int (10 ^ Int.toNat 3), V.int (10 ^ Int.toNat 9), V.int (10 ^ Int.toNat 29)] (c / 7 / 27 % 6) (Int.emod_nonneg _ (by decide)) (by show c / 7 / 27 % 6 < 6; omega)
        obtain ⟨i1, rfl⟩ : ∃ i, f1 = V.int i := by
          simp only [List.mem_cons, List.not_mem_nil, or_false] at hm1
          rcases hm1 with rfl | rfl | rfl | rfl | rfl | rfl <;> exact ⟨_, rfl⟩
        refine rIxL_ok upd_same hf1 ⟨by decide, by decide +kernel, i1, rfl, by show (3 : Nat) ≤ sizeLine; decide, fun p2 hp2 => ?_⟩
        obtain ⟨f2, hf2, hm2⟩ := atI_in [V.int (c / 7 / 9 % 10 ^ Int.toNat 20 - 7), V.int i1, V.int (0 - i1)] (c / 7 / 9 % 3) (Int.emod_nonneg _ (by decide)) (by show c / 7 / 9 % 3 < 3; omega)
        obtain ⟨i2, rfl⟩ : ∃ i, f2 = V.int i := by
          simp only [List.mem_cons, List.not_mem_nil, or_false] at hm2
          rcases hm2 with rfl | rfl | rfl <;> exact ⟨_, rfl⟩
        have s2 := (same_new hp1 (.lst [V.int 3, V.int 7, V.int 41, V.int (10 ^ Int.toNat 3), V.int (10 ^ Int.toNat 9), V.int (10 ^ Int.toNat 29)])).trans (same_new hp2 (.lst [V.int (c / 7 / 9 % 10 ^ Int.toNat 20 - 7), V.int i1, V.int (0 - i1)]))
        refine rIxL_ok upd_same hf2 ⟨tyV_list (s2 _ _ hp1'), rIxL_ok (s2 _ _ hN1.1) (at' 0 (by decide)) (rIxL_ok (s2 _ _ hN1.1) (at' 50 (by decide)) (rIxL_ok (s2 _ _ hN1.1) (at' 51 (by decide)) ⟨by show (9 : Nat) ≤ sizeLine; decide, fun p3 hp3 => ?_⟩))⟩
        obtain ⟨f3, hf3, hm3⟩ := atI_in [V.str (zs.getD 0 ""), V.str (zs.getD 50 ""), V.str (zs.getD 51 ""), V.int 0, V.int 2, V.int (-1), V.int 5, V.int i2, V.int i2] (c / 7 % 9) (Int.emod_nonneg _ (by decide)) (by show c / 7 % 9 < 9; omega)
        obtain ⟨t3, a3⟩ : twW f3 ∧ arV f3 = 0 := by
          simp only [List.mem_cons, List.not_mem_nil, or_false] at hm3
          rcases hm3 with rfl | rfl | rfl | rfl | rfl | rfl | rfl | rfl | rfl
          · exact ⟨twW_name (ok' 0 (by decide)), (ok' 0 (by decide)).1⟩
          · exact ⟨twW_name (ok' 50 (by decide)), (ok' 50 (by decide)).1⟩
          · exact ⟨twW_name (ok' 51 (by decide)), (ok' 51 (by decide)).1⟩
          all_goals exact ⟨twW_int _, rfl⟩
        exact rIxL_ok upd_same hf3 (app f3 _ ((due : Int) - 1) t3 (by rw [a3]; omega) (by rw [a3]; omega) (s2.trans (same_new hp3 _)))
      · refine ⟨by decide, by decide, by decide, by show (6 : Nat) ≤ sizeLine; decide, fun p1 hp1 => ?_⟩
        obtain ⟨f1, hf1, hm1⟩ := atI_in [V.int 3, V.int 7, V.int 41, V.int (10 ^ Int.toNat 3), V.int (10 ^ Int.toNat 9), V.int (10 ^ Int.toNat 29)] (c / 7 / 27 % 6) (Int.emod_nonneg _ (by decide)) (by show c / 7 / 27 % 6 < 6; omega)
        obtain ⟨i1, rfl⟩ : ∃ i, f1 = V.int i := by
          simp only [List.mem_cons, List.not_mem_nil, or_false] at hm1
          rcases hm1 with rfl | rfl | rfl | rfl | rfl | rfl <;> exact ⟨_, rfl⟩
        refine rIxL_ok upd_same hf1 ⟨by decide, by decide +kernel, i1, rfl, by show (3 : Nat) ≤ sizeLine; decide, fun p2 hp2 => ?_⟩
        obtain ⟨f2, hf2, hm2⟩ := atI_in [V.int (c / 7 / 9 % 10 ^ Int.toNat 20 - 7), V.int i1, V.int (0 - i1)] (c / 7 / 9 % 3) (Int.emod_nonneg _ (by decide)) (by show c / 7 / 9 % 3 < 3; omega)
        obtain ⟨i2, rfl⟩ : ∃ i, f2 = V.int i := by
          simp only [List.mem_cons, List.not_mem_nil, or_false] at hm2
          rcases hm2 with rfl | rfl | rfl <;> exact ⟨_, rfl⟩
        have s2 := (same_new hp1 (.lst [V.int 3, V.int 7, V.int 41, V.int (10 ^ Int.toNat 3), V.int (10 ^ Int.toNat 9), V.int (10 ^ Int.toNat 29)])).trans (same_new hp2 (.lst [V.int (c / 7 / 9 % 10 ^ Int.toNat 20 - 7), V.int i1, V.int (0 - i1)]))
        refine rIxL_ok upd_same hf2 ⟨tyV_list (s2 _ _ hp1'), rIxL_ok (s2 _ _ hN1.1) (at' 0 (by decide)) (rIxL_ok (s2 _ _ hN1.1) (at' 50 (by decide)) (rIxL_ok (s2 _ _ hN1.1) (at' 51 (by decide)) ⟨by show (9 : Nat) ≤ sizeLine; decide, fun p3 hp3 => ?_⟩))⟩
        obtain ⟨f3, hf3, hm3⟩ := atI_in [V.str (zs.getD 0 ""), V.str (zs.getD 50 ""), V.str (zs.getD 51 ""), V.int 0, V.int 2, V.int (-1), V.int 5, V.int i2, V.int i2] (c / 7 % 9) (Int.emod_nonneg _ (by decide)) (by show c / 7 % 9 < 9; omega)
        obtain ⟨t3, a3⟩ : twW f3 ∧ arV f3 = 0 := by
          simp only [List.mem_cons, List.not_mem_nil, or_false] at hm3
          rcases hm3 with rfl | rfl | rfl | rfl | rfl | rfl | rfl | rfl | rfl
          · exact ⟨twW_name (ok' 0 (by decide)), (ok' 0 (by decide)).1⟩
          · exact ⟨twW_name (ok' 50 (by decide)), (ok' 50 (by decide)).1⟩
          · exact ⟨twW_name (ok' 51 (by decide)), (ok' 51 (by decide)).1⟩
          all_goals exact ⟨twW_int _, rfl⟩
        exact rIxL_ok upd_same hf3 (app f3 _ ((due : Int) - 1) t3 (by rw [a3]; omega) (by rw [a3]; omega) (s2.trans (same_new hp3 _)))
    · have d0 : due = 0 := by omega
      subst d0
      refine ⟨ws, .inl ⟨SqL.of hp', fun t ht => ?_⟩⟩
      have htn := hS.free hD' ht
      exact q t (n + ws.length) _ ws (hS.upd htn _) (by rw [upd_ne (ne_of_none hD' ht)]; exact hD') (by omega) htn upd_same ⟨hw, hpd, by omega⟩ (by omega)
  · intro σ H' Q1 Q2 hq h
    simp only [tTest, tOp, rI0, tVarD_any, tC] at h ⊢
    obtain ⟨v, hv, i, j, e1, e2, k, e3, h⟩ := h
    exact ⟨v, hv, i, j, e1, e2, k, e3, hq _ _ h⟩
abbrev sShape : Stmt := top 14
theorem scShape : FnScope ["deck", "kinds", "words", "due", "left", "wide", "cell", "more", "far", "number"] ["deck", "kinds"] (defScope sShape) := ⟨rfl, rfl, rfl, by decide +kernel, rfl, by decide +kernel, by decide +kernel⟩
theorem hasShape (G : Gs w K mg) (h_law_next : Has P w K mg base k "_law_next" ["deck"] spNext) (D : Def K mg "_law_shape" sShape ["deck", "kinds"]) : Has P w K mg base (k + 1) "_law_shape" ["deck", "kinds"] spShape := by
  refine D.has scShape (fun vs H Q E h => ?_) (fun f cdv A outer s H vs Q E hr h => ?_)
  · obtain ⟨_, _, _, _, _, _, rfl, _, _, _, _, _, _, _⟩ := h
    rfl
  have nd := scShape.nd
  have hu := hu_of hr
  have hu0 := Nat.lt_of_succ_lt hu
  obtain ⟨d, kt, b, ns, kinds, n, rfl, hD, hK, hk, h1, h2, hn, q⟩ := h
  have m_int := G.m_int
  have m_len := G.m_len
  have m_tuple := G.m_tuple
  refine ⟨_, (@pss_cons _ _ _ _ _ (@ps_set _ _ 2 _ _ _ _ nd rfl (by first | exact Or.inl rfl | exact Or.inr rfl) (@pe_lst _ _ _ _ (@pa_nil _)) (by rfl) (by first | exact .inl rfl | exact .inr rfl | assumption)) (@pss_cons _ _ _ _ _ (@ps_set _ _ 3 _ _ _ _ nd rfl (by first | exact Or.inl rfl | exact Or.inr rfl) (@pe_int _ _ _ _) (by rfl) (by first | exact .inl rfl | exact .inr rfl | assumption)) (@pss_cons _ _ _ _ _ (@ps_set _ _ 4 _ _ _ _ nd rfl (by first | exact Or.inl rfl | exact Or.inr rfl) (@pe_has _ _ _ _ _ _ _ _ _ _ h_law_next hr (@pa_cons _ _ _ _ _ (@pvD _ 0 _ _ (by rfl) (by first | exact Or.inl rfl | exact Or.inr (Or.inl rfl) | exact Or.inr (Or.inr rfl)) (by decide) (by decide)) (@pa_nil _) (by rfl)) (by rfl) (by decide +kernel) (by rfl) (by rfl)) (by rfl) (by first | exact .inl rfl | exact .inr rfl | assumption)) (@pss_cons _ _ _ _ _ (@ps_set _ _ 5 _ _ _ _ nd rfl (by first | exact Or.inl rfl | exact Or.inr rfl) (@pe_cmpR _ _ _ _ _ _ _ _ (@op_eq _) (@pe_op _ _ _ _ _ _ _ _ (@op_mod _) (@pe_op _ _ _ _ _ _ _ _ (@op_fdiv _) (@pvD _ 4 _ _ (by rfl) (by first | exact Or.inl rfl | exact Or.inr (Or.inl rfl) | exact Or.inr (Or.inr rfl)) (by decide) (by decide)) (@pe_int _ _ _ _)) (@pe_int _ _ _ _)) (@pe_int _ _ _ _) (@nomark _ _ (by decide) (by decide))) (by rfl) (by first | exact .inl rfl | exact .inr rfl | assumption)) (@pss_cons _ _ _ _ _ (@ps_set _ _ 4 _ _ _ _ nd rfl (by first | exact Or.inl rfl | exact Or.inr rfl) (@pe_ix _ _ _ _ _ _ _ (@ix_list _) (@pe_lst _ _ _ _ (@pa_cons _ _ _ _ _ (@pe_op _ _ _ _ _ _ _ _ (@op_add _) (@pe_int _ _ _ _) (@pe_op _ _ _ _ _ _ _ _ (@op_mod _) (@pvD _ 4 _ _ (by rfl) (by first | exact Or.inl rfl | exact Or.inr (Or.inl rfl) | exact Or.inr (Or.inr rfl)) (by decide) (by decide)) (@pe_int _ _ _ _))) (@pa_cons _ _ _ _ _ (@pe_int _ _ _ _) (@pa_nil _) (by rfl)) (by rfl))) (@pe_callTy _ _ _ _ _ _ _ _ _ (@call_int1 _) rfl m_int b_int (@pa_cons _ _ _ _ _ (@pvD _ 5 _ _ (by rfl) (by first | exact Or.inl rfl | exact Or.inr (Or.inl rfl) | exact Or.inr (Or.inr rfl)) (by decide) (by decide)) (@pa_nil _) (by rfl)) (by decide) (by decide) (by rfl) (by rfl)) (fun _ _ => rfl)) (by rfl) (by first | exact .inl rfl | exact .inr rfl | assumption)) (@pss_cons _ _ _ _ _ (@ps_while _ _ _ _ _ _ PassesOwn.never (@pt_cmpR _ _ _ _ _ _ _ _ (@op_gt _) (@pvD _ 3 _ _ (by rfl) (by first | exact Or.inl rfl | exact Or.inr (Or.inl rfl) | exact Or.inr (Or.inr rfl)) (by decide) (by decide)) (@pe_int _ _ _ _) (@nomark _ _ (by decide) (by decide))) (@pss_cons _ _ _ _ _ (@ps_set _ _ 6 _ _ _ _ nd rfl (by first | exact Or.inl rfl | exact Or.inr rfl) (@pe_has _ _ _ _ _ _ _ _ _ _ h_law_next hr (@pa_cons _ _ _ _ _ (@pvD _ 0 _ _ (by rfl) (by first | exact Or.inl rfl | exact Or.inr (Or.inl rfl) | exact Or.inr (Or.inr rfl)) (by decide) (by decide)) (@pa_nil _) (by rfl)) (by rfl) (by decide +kernel) (by rfl) (by rfl)) (by rfl) (by first | exact .inl rfl | exact .inr rfl | assumption)) (@pss_cons _ _ _ _ _ (@ps_set _ _ 7 _ _ _ _ nd rfl (by first | exact Or.inl rfl | exact Or.inr rfl) (@pe_op _ _ _ _ _ _ _ _ (@op_fdiv _) (@pvD _ 6 _ _ (by rfl) (by first | exact Or.inl rfl | exact Or.inr (Or.inl rfl) | exact Or.inr (Or.inr rfl)) (by decide) (by decide)) (@pe_int _ _ _ _)) (by rfl) (by first | exact .inl rfl | exact .inr rfl | assumption)) (@pss_one _ _ _ (@ps_if _ _ _ _ _ _ _ _ (@PW.pt _ _ _ (@pw_and _ _ _ _ _ _ _ (@pt_cmpR _ _ _ _ _ _ _ _ (@op_gt _) (@pvD _ 4 _ _ (by rfl) (by first | exact Or.inl rfl | exact Or.inr (Or.inl rfl) | exact Or.inr (Or.inr rfl)) (by decide) (by decide)) (@pe_int _ _ _ _) (@nomark _ _ (by decide) (by decide))) (@pw_and1 _ _ _ _ (@pt_cmpR _ _ _ _ _ _ _ _ (@op_lt _) (@pe_op _ _ _ _ _ _ _ _ (@op_mod _) (@pvD _ 6 _ _ (by rfl) (by first | exact Or.inl rfl | exact Or.inr (Or.inl rfl) | exact Or.inr (Or.inr rfl)) (by decide) (by decide)) (@pe_int _ _ _ _)) (@pe_op _ _ _ _ _ _ _ _ (@op_add _) (@pe_int _ _ _ _) (@pe_callTy _ _ _ _ _ _ _ _ _ (@call_int1 _) rfl m_int b_int (@pa_cons _ _ _ _ _ (@pvD _ 5 _ _ (by rfl) (by first | exact Or.inl rfl | exact Or.inr (Or.inl rfl) | exact Or.inr (Or.inr rfl)) (by decide) (by decide)) (@pa_nil _) (by rfl)) (by decide) (by decide) (by rfl) (by rfl))) (@nomark _ _ (by decide) (by decide)))))) (@pss_cons _ _ _ _ _ (@ps_set _ _ 4 _ _ _ _ nd rfl (by first | exact Or.inl rfl | exact Or.inr rfl) (@pe_op _ _ _ _ _ _ _ _ (@op_sub _) (@pvD _ 4 _ _ (by rfl) (by first | exact Or.inl rfl | exact Or.inr (Or.inl rfl) | exact Or.inr (Or.inr rfl)) (by decide) (by decide)) (@pe_int _ _ _ _)) (by rfl) (by first | exact .inl rfl | exact .inr rfl | assumption)) (@pss_cons _ _ _ _ _ (@ps_expr _ _ _ _ (@pe_bm _ _ _ _ _ _ _ _ _ _ _ _ PySem.F.plainAttrs_list PySem.F.slot_list_append PySem.F.type_list_append (@mt_append _) (@pvD _ 2 _ _ (by rfl) (by first | exact Or.inl rfl | exact Or.inr (Or.inl rfl) | exact Or.inr (Or.inr rfl)) (by decide) (by decide)) (@pa_cons _ _ _ _ _ (@pe_ix _ _ _ _ _ _ _ (@ix_list _) (@pe_lst _ _ _ _ (@pa_const _ _ _ (@CsOk.str _ _ _ _ _ (@CsOk.str _ _ _ _ _ (@CsOk.str _ _ _ _ _ (@CsOk.str _ _ _ _ _ (@CsOk.nil))))))) (@pe_op _ _ _ _ _ _ _ _ (@op_mod _) (@pvD _ 7 _ _ (by rfl) (by first | exact Or.inl rfl | exact Or.inr (Or.inl rfl) | exact Or.inr (Or.inr rfl)) (by decide) (by decide)) (@pe_int _ _ _ _)) (fun _ _ => rfl)) (@pa_nil _) (by rfl)) (by rfl) (by rfl) (by rfl) (by rfl) (by rfl)) (by rfl)) (@pss_one _ _ _ (@ps_set _ _ 3 _ _ _ _ nd rfl (by first | exact Or.inl rfl | exact Or.inr rfl) (@pe_op _ _ _ _ _ _ _ _ (@op_add _) (@pvD _ 3 _ _ (by rfl) (by first | exact Or.inl rfl | exact Or.inr (Or.inl rfl) | exact Or.inr (Or.inr rfl)) (by decide) (by decide)) (@pe_callTy _ _ _ _ _ _ _ _ _ (@call_int1 _) rfl m_int b_int (@pa_cons _ _ _ _ _ (@pe_cmpR _ _ _ _ _ _ _ _ (@op_lt _) (@pe_op _ _ _ _ _ _ _ _ (@op_mod _) (@pvD _ 7 _ _ (by rfl) (by first | exact Or.inl rfl | exact Or.inr (Or.inl rfl) | exact Or.inr (Or.inr rfl)) (by decide) (by decide)) (@pe_int _ _ _ _)) (@pe_int _ _ _ _) (@nomark _ _ (by decide) (by decide))) (@pa_nil _) (by rfl)) (by decide) (by decide) (by rfl) (by rfl))) (by rfl) (by first | exact .inl rfl | exact .inr rfl | assumption))))) (@pss_one _ _ _ (@ps_if _ _ _ _ _ _ _ _ (@PW.pt _ _ _ (@pw_and _ _ _ _ _ _ _ (@pt_cmpR _ _ _ _ _ _ _ _ (@op_gt _) (@pvD _ 4 _ _ (by rfl) (by first | exact Or.inl rfl | exact Or.inr (Or.inl rfl) | exact Or.inr (Or.inr rfl)) (by decide) (by decide)) (@pe_int _ _ _ _) (@nomark _ _ (by decide) (by decide))) (@pw_and1 _ _ _ _ (@pt_cmpR _ _ _ _ _ _ _ _ (@op_eq _) (@pe_op _ _ _ _ _ _ _ _ (@op_mod _) (@pvD _ 6 _ _ (by rfl) (by first | exact Or.inl rfl | exact Or.inr (Or.inl rfl) | exact Or.inr (Or.inr rfl)) (by decide) (by decide)) (@pe_int _ _ _ _)) (@pe_int _ _ _ _) (@nomark _ _ (by decide) (by decide)))))) (@pss_cons _ _ _ _ _ (@ps_set _ _ 4 _ _ _ _ nd rfl (by first | exact Or.inl rfl | exact Or.inr rfl) (@pe_op _ _ _ _ _ _ _ _ (@op_sub _) (@pvD _ 4 _ _ (by rfl) (by first | exact Or.inl rfl | exact Or.inr (Or.inl rfl) | exact Or.inr (Or.inr rfl)) (by decide) (by decide)) (@pe_int _ _ _ _)) (by rfl) (by first | exact .inl rfl | exact .inr rfl | assumption)) (@pss_cons _ _ _ _ _ (@ps_set _ _ 3 _ _ _ _ nd rfl (by first | exact Or.inl rfl | exact Or.inr rfl) (@pe_op _ _ _ _ _ _ _ _ (@op_sub _) (@pvD _ 3 _ _ (by rfl) (by first | exact Or.inl rfl | exact Or.inr (Or.inl rfl) | exact Or.inr (Or.inr rfl)) (by decide) (by decide)) (@pe_int _ _ _ _)) (by rfl) (by first | exact .inl rfl | exact .inr rfl | assumption)) (@pss_cons _ _ _ _ _ (@ps_set _ _ 8 _ _ _ _ nd rfl (by first | exact Or.inl rfl | exact Or.inr rfl) (@pe_ix _ _ _ _ _ _ _ (@ix_list _) (@pe_lst _ _ _ _ (@pa_cons _ _ _ _ _ (@pe_int _ _ _ _) (@pa_cons _ _ _ _ _ (@pe_int _ _ _ _) (@pa_cons _ _ _ _ _ (@pe_int _ _ _ _) (@pa_cons _ _ _ _ _ (@pe_op _ _ _ _ _ _ _ _ (@op_pow _) (@pe_int _ _ _ _) (@pe_int _ _ _ _)) (@pa_cons _ _ _ _ _ (@pe_op _ _ _ _ _ _ _ _ (@op_pow _) (@pe_int _ _ _ _) (@pe_int _ _ _ _)) (@pa_cons _ _ _ _ _ (@pe_op _ _ _ _ _ _ _ _ (@op_pow _) (@pe_int _ _ _ _) (@pe_int _ _ _ _)) (@pa_nil _) (by rfl)) (by rfl)) (by rfl)) (by rfl)) (by rfl)) (by rfl))) (@pe_op _ _ _ _ _ _ _ _ (@op_mod _) (@pe_op _ _ _ _ _ _ _ _ (@op_fdiv _) (@pvD _ 7 _ _ (by rfl) (by first | exact Or.inl rfl | exact Or.inr (Or.inl rfl) | exact Or.inr (Or.inr rfl)) (by decide) (by decide)) (@pe_int _ _ _ _)) (@pe_int _ _ _ _)) (fun _ _ => rfl)) (by rfl) (by first | exact .inl rfl | exact .inr rfl | assumption)) (@pss_cons _ _ _ _ _ (@ps_set _ _ 9 _ _ _ _ nd rfl (by first | exact Or.inl rfl | exact Or.inr rfl) (@pe_ix _ _ _ _ _ _ _ (@ix_list _) (@pe_lst _ _ _ _ (@pa_cons _ _ _ _ _ (@pe_int _ _ _ _) (@pa_cons _ _ _ _ _ (@pe_int _ _ _ _) (@pa_cons _ _ _ _ _ (@pe_un _ _ _ _ _ _ (@un_neg _) (@pe_int _ _ _ _)) (@pa_cons _ _ _ _ _ (@pe_int _ _ _ _) (@pa_cons _ _ _ _ _ (@pvD _ 8 _ _ (by rfl) (by first | exact Or.inl rfl | exact Or.inr (Or.inl rfl) | exact Or.inr (Or.inr rfl)) (by decide) (by decide)) (@pa_cons _ _ _ _ _ (@pe_op _ _ _ _ _ _ _ _ (@op_sub _) (@pe_int _ _ _ _) (@pvD _ 8 _ _ (by rfl) (by first | exact Or.inl rfl | exact Or.inr (Or.inl rfl) | exact Or.inr (Or.inr rfl)) (by decide) (by decide))) (@pa_nil _) (by rfl)) (by rfl)) (by rfl)) (by rfl)) (by rfl)) (by rfl))) (@pe_op _ _ _ _ _ _ _ _ (@op_mod _) (@pe_op _ _ _ _ _ _ _ _ (@op_fdiv _) (@pvD _ 7 _ _ (by rfl) (by first | exact Or.inl rfl | exact Or.inr (Or.inl rfl) | exact Or.inr (Or.inr rfl)) (by decide) (by decide)) (@pe_int _ _ _ _)) (@pe_int _ _ _ _)) (fun _ _ => rfl)) (by rfl) (by first | exact .inl rfl | exact .inr rfl | assumption)) (@pss_one _ _ _ (@ps_expr _ _ _ _ (@pe_bm _ _ _ _ _ _ _ _ _ _ _ _ PySem.F.plainAttrs_list PySem.F.slot_list_append PySem.F.type_list_append (@mt_append _) (@pvD _ 2 _ _ (by rfl) (by first | exact Or.inl rfl | exact Or.inr (Or.inl rfl) | exact Or.inr (Or.inr rfl)) (by decide) (by decide)) (@pa_cons _ _ _ _ _ (@pe_ix _ _ _ _ _ _ _ (@ix_list _) (@pe_lst _ _ _ _ (@pa_cons _ _ _ _ _ (@pe_str _ _ _ _) (@pa_cons _ _ _ _ _ (@pe_str _ _ _ _) (@pa_cons _ _ _ _ _ (@pvD _ 9 _ _ (by rfl) (by first | exact Or.inl rfl | exact Or.inr (Or.inl rfl) | exact Or.inr (Or.inr rfl)) (by decide) (by decide)) (@pa_nil _) (by rfl)) (by rfl)) (by rfl))) (@pe_op _ _ _ _ _ _ _ _ (@op_mod _) (@pvD _ 7 _ _ (by rfl) (by first | exact Or.inl rfl | exact Or.inr (Or.inl rfl) | exact Or.inr (Or.inr rfl)) (by decide) (by decide)) (@pe_int _ _ _ _)) (fun _ _ => rfl)) (@pa_nil _) (by rfl)) (by rfl) (by rfl) (by rfl) (by rfl) (by rfl)) (by rfl))))))) (@pss_cons _ _ _ _ _ (@ps_set _ _ 3 _ _ _ _ nd rfl (by first | exact Or.inl rfl | exact Or.inr rfl) (@pe_op _ _ _ _ _ _ _ _ (@op_sub _) (@pvD _ 3 _ _ (by rfl) (by first | exact Or.inl rfl | exact Or.inr (Or.inl rfl) | exact Or.inr (Or.inr rfl)) (by decide) (by decide)) (@pe_int _ _ _ _)) (by rfl) (by first | exact .inl rfl | exact .inr rfl | assumption)) (@pss_one _ _ _ (@ps_expr _ _ _ _ (@pe_bm _ _ _ _ _ _ _ _ _ _ _ _ PySem.F.plainAttrs_list PySem.F.slot_list_append PySem.F.type_list_append (@mt_append _) (@pvD _ 2 _ _ (by rfl) (by first | exact Or.inl rfl | exact Or.inr (Or.inl rfl) | exact Or.inr (Or.inr rfl)) (by decide) (by decide)) (@pa_cons _ _ _ _ _ (@pe_ix _ _ _ _ _ _ _ (@ix_tup _) (@pvD _ 1 _ _ (by rfl) (by first | exact Or.inl rfl | exact Or.inr (Or.inl rfl) | exact Or.inr (Or.inr rfl)) (by decide) (by decide)) (@pe_op _ _ _ _ _ _ _ _ (@op_mod _) (@pvD _ 7 _ _ (by rfl) (by first | exact Or.inl rfl | exact Or.inr (Or.inl rfl) | exact Or.inr (Or.inr rfl)) (by decide) (by decide)) (@pe_callB _ _ _ _ _ _ _ _ _ (@call_len_seq _) rfl m_len b_len (@pa_cons _ _ _ _ _ (@pvD _ 1 _ _ (by rfl) (by first | exact Or.inl rfl | exact Or.inr (Or.inl rfl) | exact Or.inr (Or.inr rfl)) (by decide) (by decide)) (@pa_nil _) (by rfl)) (by decide) (by decide) (by rfl) (by rfl))) (fun _ _ => rfl)) (@pa_nil _) (by rfl)) (by rfl) (by rfl) (by rfl) (by rfl) (by rfl)) (by rfl))))))))))) (@pss_one _ _ _ (@ps_ret _ _ _ _ (@pe_callTy _ _ _ _ _ _ _ _ _ (@call_tuple_of _) rfl m_tuple b_tuple (@pa_cons _ _ _ _ _ (@pvD _ 2 _ _ (by rfl) (by first | exact Or.inl rfl | exact Or.inr (Or.inl rfl) | exact Or.inr (Or.inr rfl)) (by decide) (by decide)) (@pa_nil _) (by rfl)) (by decide) (by decide) (by rfl) (by rfl)))))))))), ?_⟩
  rw [show start ["deck", "kinds", "words", "due", "left", "wide", "cell", "more", "far", "number"] [.ref d, .ref kt] = [some (.ref d), some (.ref kt), none, none, none, none, none, none, none, none] from rfl]
  clear hu hu0 nd hr
  push_cast [spNext]
  have sz := sizeLine_eq
  refine ⟨Nat.zero_le _, fun p hp => ?_⟩
  have npd : p ≠ d := (ne_of_none hD.1 hp).symm
  refine ⟨b, ns, n, ⟨same_new hp _ _ _ hD.1, same_new hp _ _ _ hD.2⟩, by omega, fun c0 H1 s1 d1 => ⟨rfl, by show (2 : Nat) ≤ sizeLine; decide, fun p1 hp1 => ?_⟩⟩
  have D0 : Deck (upd H p (.lst [])) d b ns n := ⟨same_new hp _ _ _ hD.1, same_new hp _ _ _ hD.2⟩
  have D1 := D0.next s1 d1
  have S1 : SameB d H H1 := (SameB.of (same_new hp _)).trans s1
  have hp1' : H1 p = some (.lst []) := s1 p _ npd upd_same
  obtain ⟨L0, hL1, hL2, hat⟩ : ∃ L0 : Nat, 1 ≤ L0 ∧ L0 ≤ 5 ∧ atI [V.int (1 + c0 % 4), V.int 5] (if c0 / 4 % 8 = 3 then 1 else 0) = some (.int (L0 : Int)) := by
    have a0 : 0 ≤ c0 % 4 := Int.emod_nonneg _ (by decide)
    by_cases e : c0 / 4 % 8 = 3
    · rw [if_pos e]
      exact ⟨5, by decide, by decide, rfl⟩
    · rw [if_neg e]
      exact ⟨(1 + c0 % 4).toNat, by omega, by omega, (show atI [V.int (1 + c0 % 4), V.int 5] 0 = some (V.int (1 + c0 % 4)) from rfl).trans (by rw [show (((1 + c0 % 4).toNat : Nat) : Int) = 1 + c0 % 4 by omega])⟩
  refine rIxL_ok upd_same hat ?_
  have S2 := S1.upd (S1.free d1 hp1) (.lst [V.int (1 + c0 % 4), V.int 5])
  have d2 := same_new hp1 (.lst [V.int (1 + c0 % 4), V.int 5]) _ _ d1
  have p2 := same_new hp1 (.lst [V.int (1 + c0 % 4), V.int 5]) _ _ hp1'
  generalize upd H1 p1 (.lst [V.int (1 + c0 % 4), V.int 5]) = H2 at S2 d2 p2 ⊢
  refine while_by (fun σ H' => ∃ (ws : List V) (due left : Nat) (v6 v7 v8 v9 : Option V), σ = [some (.ref d), some (.ref kt), some (.ref p), some (.int (due : Int)), some (.int (left : Int)), some (.bl (decide (c0 / 4 % 8 = 3))), v6, v7, v8, v9] ∧ SameB d H H' ∧ H' d = some (.lst [.ref b, .int ((n + 1 + ws.length : Nat) : Int)]) ∧ H' p = some (.lst ws) ∧ (∀ v ∈ ws, isW v) ∧ pend 1 (ws.map arV) = some due ∧ ws.length + due + 2 * left ≤ 11 ∧ (ws.filter fun v => !inV v (kinds.map V.str)).length + left ≤ 5)
    (fun σ H' => 11 - lenAt H' p) ?_ ?_ ?_
  · exact ⟨[], 1, L0, none, none, none, none, rfl, S2, d2, p2, (fun _ h => nomatch h), rfl, by show 0 + 1 + 2 * L0 ≤ 11; omega, by show 0 + L0 ≤ 5; omega⟩
  · rintro σ H' ⟨ws, due, left, v6, v7, v8, v9, rfl, hS, hD', hp', hw, hpd, hr, hfew⟩
    push_cast [spNext, CDiv, CPow]
    have hDk : Deck H' d b ns (n + 1 + ws.length) := hD.next hS hD'
    refine ite2 (fun hdue => ⟨b, ns, _, hDk, by omega, fun c H3 s3 d3 => ?_⟩) fun hdue => ?_
    · have p3 : H3 p = some (.lst ws) := s3 p _ npd hp'
      have k3 : H3 kt = some (.tup (kinds.map V.str)) := (hS.trans s3) kt _ (ne_of hK hD.1 (by intro e; cases e)) hK
      have app : ∀ (v : V) (H4 : Hp) (dd : Int) (left' : Nat), isW v → dd = (due : Int) - 1 + (arV v : Int) → ws.length + due + arV v + 2 * left' ≤ 11 → (left' + 1 = left ∨ (left' = left ∧ inV v (kinds.map V.str) = true)) → Same H3 H4 →
          rAppend (.ref p) [v] H4 fun _ H5 => (∃ ws due_1, dd = ((due_1 : Nat) : Int) ∧ ∃ x : Nat, (left' : Int) = (x : Int) ∧ SameB d H H5 ∧ H5 d = some (.lst [.ref b, .int ((n + 1 + ws.length : Nat) : Int)]) ∧ H5 p = some (.lst ws) ∧ (∀ v ∈ ws, isW v) ∧ pend 1 (ws.map arV) = some due_1 ∧ ws.length + due_1 + 2 * x ≤ 11 ∧ (ws.filter fun v => !inV v (kinds.map V.str)).length + x ≤ 5) ∧ 11 - lenAt H5 p < 11 - lenAt H' p := by
        intro v H4 dd left' hv hdd hroom hlf s4
        have p4 := s4 _ _ p3
        refine ⟨p, ws, v, rfl, rfl, p4, by omega, ⟨ws ++ [v], due - 1 + arV v, by omega, left', rfl, (hS.trans (s3.trans (SameB.of s4))).upd hp _, ?_, upd_same, fun x hx => ?_, ?_, ?_, ?_⟩, ?_⟩
        · rw [upd_ne npd.symm, List.length_append]
          exact s4 _ _ d3
        · rcases List.mem_append.mp hx with h | h
          · exact hw x h
          · rw [List.mem_singleton.mp h]; exact hv
        · rw [List.map_append]
          exact pend_snoc _ _ _ _ hpd (by omega)
        · rw [List.length_append, List.length_singleton]; omega
        · rw [List.filter_append, List.length_append]
          rcases hlf with h | ⟨h, hin⟩
          · have : ([v].filter fun v => !inV v (kinds.map V.str)).length ≤ 1 := List.length_filter_le _ _
            omega
          · have : [v].filter (fun v => !inV v (kinds.map V.str)) = [] := by rw [List.filter_cons, hin]; rfl
            rw [this, List.length_nil]
            omega
        · rw [lenAt_of upd_same, lenAt_of hp', List.length_append, List.length_singleton]; omega
      refine ite2 (fun l0 => ite2 (fun a1 => ⟨tyV_list p3, by show (4 : Nat) ≤ sizeLine; decide, fun p4 hp4 => ?_⟩) fun a1 => ite2 (fun _ => ⟨rfl, ite2 (fun e3 => ?_) fun e3 => ?_⟩) fun nl => absurd l0 nl) fun nl => ite2 (fun l0 => absurd l0 nl) fun _ => ?_
      · obtain ⟨y, hy, hw2, ha2⟩ : ∃ y, atI [V.str (Str.ofString "add"), V.str (Str.ofString "sub"), V.str (Str.ofString "mul"), V.str (Str.ofString "neg")] (c / 5 % 4) = some y ∧ isW y ∧ ((due : Int) + if c / 5 % 4 < 3 then 1 else 0) = (due : Int) - 1 + (arV y : Int) := by
          rcases (show c / 5 % 4 = ((0 : Nat) : Int) ∨ c / 5 % 4 = ((1 : Nat) : Int) ∨ c / 5 % 4 = ((2 : Nat) : Int) ∨ c / 5 % 4 = ((3 : Nat) : Int) by omega) with e | e | e | e
          · rw [e]; exact ⟨_, atI_nat rfl, ⟨Sum.inr _, rfl⟩, by rw [show arV (.str (Str.ofString "add")) = 2 by decide +kernel, if_pos (by decide)]; omega⟩
          · rw [e]; exact ⟨_, atI_nat rfl, ⟨Sum.inr _, rfl⟩, by rw [show arV (.str (Str.ofString "sub")) = 2 by decide +kernel, if_pos (by decide)]; omega⟩
          · rw [e]; exact ⟨_, atI_nat rfl, ⟨Sum.inr _, rfl⟩, by rw [show arV (.str (Str.ofString "mul")) = 2 by decide +kernel, if_pos (by decide)]; omega⟩
          · rw [e]; exact ⟨_, atI_nat rfl, ⟨Sum.inr _, rfl⟩, by rw [show arV (.str (Str.ofString "neg")) = 1 from ar_neg, if_neg (by decide)]; omega⟩
        have ar2 := arV_le y
        obtain ⟨l', rfl⟩ : ∃ l', left = l' + 1 := ⟨left - 1, by omega⟩
        rw [show ((l' + 1 : Nat) : Int) - 1 = (l' : Int) by omega]
        exact rIxL_ok upd_same hy (app y _ _ l' hw2 ha2 (by omega) (.inl rfl) (same_new hp4 _))
      · obtain ⟨l', rfl⟩ : ∃ l', left = l' + 1 := ⟨left - 1, by omega⟩
        rw [show ((l' + 1 : Nat) : Int) - 1 = (l' : Int) by omega]
        refine ⟨by decide, by decide, by decide, by show (6 : Nat) ≤ sizeLine; decide, fun p4 hp4 => ?_⟩
        obtain ⟨f1, hf1, hm1⟩ := atI_in [V.int 3, V.int 7, V.int 41, V.int (10 ^ Int.toNat 3), V.int (10 ^ Int.toNat 9), V.int (10 ^ Int.toNat 29)] (c / 5 / 18 % 6) (Int.emod_nonneg _ (by decide)) (by show c / 5 / 18 % 6 < 6; omega)
        obtain ⟨i1, rfl⟩ : ∃ i, f1 = V.int i := by
          simp only [List.mem_cons, List.not_mem_nil, or_false] at hm1
          rcases hm1 with rfl | rfl | rfl | rfl | rfl | rfl <;> exact ⟨_, rfl⟩
        refine rIxL_ok upd_same hf1 ⟨i1, rfl, by show (6 : Nat) ≤ sizeLine; decide, fun p5 hp5 => ?_⟩
        obtain ⟨f2, hf2, hm2⟩ := atI_in [V.int 0, V.int 2, V.int (-1), V.int 5, V.int i1, V.int (0 - i1)] (c / 5 / 3 % 6) (Int.emod_nonneg _ (by decide)) (by show c / 5 / 3 % 6 < 6; omega)
        obtain ⟨i2, rfl⟩ : ∃ i, f2 = V.int i := by
          simp only [List.mem_cons, List.not_mem_nil, or_false] at hm2
          rcases hm2 with rfl | rfl | rfl | rfl | rfl | rfl <;> exact ⟨_, rfl⟩
        have s5 := (same_new hp4 (.lst [V.int 3, V.int 7, V.int 41, V.int (10 ^ Int.toNat 3), V.int (10 ^ Int.toNat 9), V.int (10 ^ Int.toNat 29)])).trans (same_new hp5 (.lst [V.int 0, V.int 2, V.int (-1), V.int 5, V.int i1, V.int (0 - i1)]))
        refine rIxL_ok upd_same hf2 ⟨tyV_list (s5 _ _ p3), by show (3 : Nat) ≤ sizeLine; decide, fun p6 hp6 => ?_⟩
        obtain ⟨f3, hf3, hm3⟩ := atI_in [V.str (Str.ofString "any"), V.str (Str.ofString "var"), V.int i2] (c / 5 % 3) (Int.emod_nonneg _ (by decide)) (by show c / 5 % 3 < 3; omega)
        obtain ⟨t3, a3⟩ : isW f3 ∧ arV f3 = 0 := by
          simp only [List.mem_cons, List.not_mem_nil, or_false] at hm3
          rcases hm3 with rfl | rfl | rfl
          · exact ⟨⟨Sum.inr _, rfl⟩, any_ar⟩
          · exact ⟨⟨Sum.inr _, rfl⟩, var_ar⟩
          · exact ⟨⟨Sum.inl _, rfl⟩, rfl⟩
        exact rIxL_ok upd_same hf3 (app f3 _ ((due : Int) - 1) l' t3 (by rw [a3]; omega) (by rw [a3]; omega) (.inl rfl) (s5.trans (same_new hp6 _)))
      · have hm := atI_in (kinds.map V.str) (c / 5 % (((kinds.map V.str).length : Nat) : Int)) (Int.emod_nonneg _ (by rw [List.length_map]; omega)) (Int.emod_lt_of_pos _ (by rw [List.length_map]; omega))
        obtain ⟨y, hy, hym⟩ := hm
        obtain ⟨z, hz, rfl⟩ := List.mem_map.mp hym
        have a0 : arV (.str z) = 0 := (hk z hz).1
        have kn : inV (.str z) (kinds.map V.str) = true := inV_mem hym
        exact ⟨tyV_list p3, _, .inr (SqT.of k3), by rw [List.length_map]; omega, rIxT_ok k3 hy (app (.str z) H3 ((due : Int) - 1) left ⟨Sum.inr z, rfl⟩ (by rw [a0]; omega) (by rw [a0]; omega) (.inr ⟨rfl, kn⟩) (Same.refl _))⟩
      · have hm := atI_in (kinds.map V.str) (c / 5 % (((kinds.map V.str).length : Nat) : Int)) (Int.emod_nonneg _ (by rw [List.length_map]; omega)) (Int.emod_lt_of_pos _ (by rw [List.length_map]; omega))
        obtain ⟨y, hy, hym⟩ := hm
        obtain ⟨z, hz, rfl⟩ := List.mem_map.mp hym
        have a0 : arV (.str z) = 0 := (hk z hz).1
        have kn : inV (.str z) (kinds.map V.str) = true := inV_mem hym
        exact ⟨tyV_list p3, _, .inr (SqT.of k3), by rw [List.length_map]; omega, rIxT_ok k3 hy (app (.str z) H3 ((due : Int) - 1) left ⟨Sum.inr z, rfl⟩ (by rw [a0]; omega) (by rw [a0]; omega) (.inr ⟨rfl, kn⟩) (Same.refl _))⟩
    · have d0 : due = 0 := by omega
      subst d0
      refine ⟨ws, .inl ⟨SqL.of hp', fun t ht => ?_⟩⟩
      have htn := hS.free hD' ht
      exact q t (n + 1 + ws.length) _ ws (hS.upd htn _) (by rw [upd_ne (ne_of_none hD' ht)]; exact hD') (by omega) htn upd_same ⟨hw, hpd, by omega, by omega⟩
  · intro σ H' Q1 Q2 hq h
    simp only [tTest, tOp, rI0, tVarD_any, tC] at h ⊢
    obtain ⟨v, hv, i, j, e1, e2, k, e3, h⟩ := h
    exact ⟨v, hv, i, j, e1, e2, k, e3, hq _ _ h⟩
abbrev sFilled : Stmt := top 21
theorem scFilled : FnScope ["deck", "book", "rule", "names", "words", "word", "cell"] ["deck", "book", "rule", "names"] (defScope sFilled) := ⟨rfl, rfl, rfl, by decide +kernel, rfl, by decide +kernel, by decide +kernel⟩
theorem hasFilled (G : Gs w K mg) (h_law_next : Has P w K mg base k "_law_next" ["deck"] spNext) (h_law_term : Has P w K mg base k "_law_term" ["deck", "names", "most"] spTermT) (D : Def K mg "_law_filled" sFilled ["deck", "book", "rule", "names"]) : Has P w K mg base (k + 1) "_law_filled" ["deck", "book", "rule", "names"] spFilled := by
  refine D.has scFilled (fun vs H Q E h => ?_) (fun f cdv A outer s H vs Q E hr h => ?_)
  · obtain ⟨_, _, _, _, _, _, _, _, _, _, _, rfl, _, _, _, _, _, _, _, _⟩ := h
    rfl
  have nd := scFilled.nd
  have hu := hu_of hr
  have hu0 := Nat.lt_of_succ_lt hu
  obtain ⟨d, bt, rt, nl, b, ns, kinds, rs, r, zs, n, rfl, hD, hB, bk, hR, hrm, hN, hn, q⟩ := h
  have m_list := G.m_list
  have m_tuple := G.m_tuple
  refine ⟨_, (@pss_cons _ _ _ _ _ (@ps_set _ _ 4 _ _ _ _ nd rfl (by first | exact Or.inl rfl | exact Or.inr rfl) (@pe_lst _ _ _ _ (@pa_nil _)) (by rfl) (by first | exact .inl rfl | exact .inr rfl | assumption)) (@pss_cons _ _ _ _ _ (@ps_for _ _ _ _ _ _ _ _ PassesOwn.never rfl (@pi_tup _ _ _ _ (@pe_ix _ _ _ _ _ _ _ (@ix_tup _) (@pvD _ 2 _ _ (by rfl) (by first | exact Or.inl rfl | exact Or.inr (Or.inl rfl) | exact Or.inr (Or.inr rfl)) (by decide) (by decide)) (@pe_int _ _ _ _) (fun _ _ => rfl))) (@pg_name _ _ 5 _ nd rfl (by first | exact Or.inl rfl | exact Or.inr rfl) (by first | exact .inl rfl | exact .inr rfl | assumption)) (@pss_cons _ _ _ _ _ (@ps_set _ _ 6 _ _ _ _ nd rfl (by first | exact Or.inl rfl | exact Or.inr rfl) (@pe_has _ _ _ _ _ _ _ _ _ _ h_law_next hr (@pa_cons _ _ _ _ _ (@pvD _ 0 _ _ (by rfl) (by first | exact Or.inl rfl | exact Or.inr (Or.inl rfl) | exact Or.inr (Or.inr rfl)) (by decide) (by decide)) (@pa_nil _) (by rfl)) (by rfl) (by decide +kernel) (by rfl) (by rfl)) (by rfl) (by first | exact .inl rfl | exact .inr rfl | assumption)) (@pss_one _ _ _ (@ps_if _ _ _ _ _ _ _ _ (@pt_cmpR _ _ _ _ _ _ _ _ (@op_in_seq _) (@pvD _ 5 _ _ (by rfl) (by first | exact Or.inl rfl | exact Or.inr (Or.inl rfl) | exact Or.inr (Or.inr rfl)) (by decide) (by decide)) (@pe_ix _ _ _ _ _ _ _ (@ix_tup _) (@pvD _ 1 _ _ (by rfl) (by first | exact Or.inl rfl | exact Or.inr (Or.inl rfl) | exact Or.inr (Or.inr rfl)) (by decide) (by decide)) (@pe_int _ _ _ _) (fun _ _ => rfl)) (by with_unfolding_all rfl)) (@pss_one _ _ _ (@ps_expr _ _ _ _ (@pe_bm _ _ _ _ _ _ _ _ _ _ _ _ PySem.F.plainAttrs_list PySem.F.slot_list_extend PySem.F.type_list_extend (@mt_extend _) (@pvD _ 4 _ _ (by rfl) (by first | exact Or.inl rfl | exact Or.inr (Or.inl rfl) | exact Or.inr (Or.inr rfl)) (by decide) (by decide)) (@pa_cons _ _ _ _ _ (@pe_callTy _ _ _ _ _ _ _ _ _ (@call_list_of _) rfl m_list b_list (@pa_cons _ _ _ _ _ (@pe_has _ _ _ _ _ _ _ _ _ _ h_law_term hr (@pa_cons _ _ _ _ _ (@pvD _ 0 _ _ (by rfl) (by first | exact Or.inl rfl | exact Or.inr (Or.inl rfl) | exact Or.inr (Or.inr rfl)) (by decide) (by decide)) (@pa_cons _ _ _ _ _ (@pvD _ 3 _ _ (by rfl) (by first | exact Or.inl rfl | exact Or.inr (Or.inl rfl) | exact Or.inr (Or.inr rfl)) (by decide) (by decide)) (@pa_cons _ _ _ _ _ (@pe_op _ _ _ _ _ _ _ _ (@op_add _) (@pe_int _ _ _ _) (@pe_op _ _ _ _ _ _ _ _ (@op_mod _) (@pvD _ 6 _ _ (by rfl) (by first | exact Or.inl rfl | exact Or.inr (Or.inl rfl) | exact Or.inr (Or.inr rfl)) (by decide) (by decide)) (@pe_int _ _ _ _))) (@pa_nil _) (by rfl)) (by rfl)) (by rfl)) (by rfl) (by decide +kernel) (by rfl) (by rfl)) (@pa_nil _) (by rfl)) (by decide) (by decide) (by rfl) (by rfl)) (@pa_nil _) (by rfl)) (by rfl) (by rfl) (by rfl) (by rfl) (by rfl)) (by rfl))) (@pss_one _ _ _ (@ps_if _ _ _ _ _ _ _ _ (@pt_cmpR _ _ _ _ _ _ _ _ (@op_eq _) (@pvD _ 5 _ _ (by rfl) (by first | exact Or.inl rfl | exact Or.inr (Or.inl rfl) | exact Or.inr (Or.inr rfl)) (by decide) (by decide)) (@pe_str _ _ _ _) (@nomark _ _ (by decide) (by decide))) (@pss_one _ _ _ (@ps_expr _ _ _ _ (@pe_bm _ _ _ _ _ _ _ _ _ _ _ _ PySem.F.plainAttrs_list PySem.F.slot_list_append PySem.F.type_list_append (@mt_append _) (@pvD _ 4 _ _ (by rfl) (by first | exact Or.inl rfl | exact Or.inr (Or.inl rfl) | exact Or.inr (Or.inr rfl)) (by decide) (by decide)) (@pa_cons _ _ _ _ _ (@pe_op _ _ _ _ _ _ _ _ (@op_sub _) (@pe_op _ _ _ _ _ _ _ _ (@op_mod _) (@pvD _ 6 _ _ (by rfl) (by first | exact Or.inl rfl | exact Or.inr (Or.inl rfl) | exact Or.inr (Or.inr rfl)) (by decide) (by decide)) (@pe_op _ _ _ _ _ _ _ _ (@op_pow _) (@pe_int _ _ _ _) (@pe_int _ _ _ _))) (@pe_int _ _ _ _)) (@pa_nil _) (by rfl)) (by rfl) (by rfl) (by rfl) (by rfl) (by rfl)) (by rfl))) (@pss_one _ _ _ (@ps_if _ _ _ _ _ _ _ _ (@pt_cmpR _ _ _ _ _ _ _ _ (@op_eq _) (@pvD _ 5 _ _ (by rfl) (by first | exact Or.inl rfl | exact Or.inr (Or.inl rfl) | exact Or.inr (Or.inr rfl)) (by decide) (by decide)) (@pe_str _ _ _ _) (@nomark _ _ (by decide) (by decide))) (@pss_one _ _ _ (@ps_expr _ _ _ _ (@pe_bm _ _ _ _ _ _ _ _ _ _ _ _ PySem.F.plainAttrs_list PySem.F.slot_list_append PySem.F.type_list_append (@mt_append _) (@pvD _ 4 _ _ (by rfl) (by first | exact Or.inl rfl | exact Or.inr (Or.inl rfl) | exact Or.inr (Or.inr rfl)) (by decide) (by decide)) (@pa_cons _ _ _ _ _ (@pe_ix _ _ _ _ _ _ _ (@ix_list _) (@pvD _ 3 _ _ (by rfl) (by first | exact Or.inl rfl | exact Or.inr (Or.inl rfl) | exact Or.inr (Or.inr rfl)) (by decide) (by decide)) (@pe_op _ _ _ _ _ _ _ _ (@op_mod _) (@pvD _ 6 _ _ (by rfl) (by first | exact Or.inl rfl | exact Or.inr (Or.inl rfl) | exact Or.inr (Or.inr rfl)) (by decide) (by decide)) (@pe_int _ _ _ _)) (fun _ _ => rfl)) (@pa_nil _) (by rfl)) (by rfl) (by rfl) (by rfl) (by rfl) (by rfl)) (by rfl))) (@pss_one _ _ _ (@ps_expr _ _ _ _ (@pe_bm _ _ _ _ _ _ _ _ _ _ _ _ PySem.F.plainAttrs_list PySem.F.slot_list_append PySem.F.type_list_append (@mt_append _) (@pvD _ 4 _ _ (by rfl) (by first | exact Or.inl rfl | exact Or.inr (Or.inl rfl) | exact Or.inr (Or.inr rfl)) (by decide) (by decide)) (@pa_cons _ _ _ _ _ (@pvD _ 5 _ _ (by rfl) (by first | exact Or.inl rfl | exact Or.inr (Or.inl rfl) | exact Or.inr (Or.inr rfl)) (by decide) (by decide)) (@pa_nil _) (by rfl)) (by rfl) (by rfl) (by rfl) (by rfl) (by rfl)) (by rfl)))))))))) (by intro _; rfl)) (@pss_one _ _ _ (@ps_ret _ _ _ _ (@pe_callTy _ _ _ _ _ _ _ _ _ (@call_tuple_of _) rfl m_tuple b_tuple (@pa_cons _ _ _ _ _ (@pvD _ 4 _ _ (by rfl) (by first | exact Or.inl rfl | exact Or.inr (Or.inl rfl) | exact Or.inr (Or.inr rfl)) (by decide) (by decide)) (@pa_nil _) (by rfl)) (by decide) (by decide) (by rfl) (by rfl)))))), ?_⟩
  rw [show start ["deck", "book", "rule", "names", "words", "word", "cell"] [.ref d, .ref bt, .ref rt, .ref nl] = [some (.ref d), some (.ref bt), some (.ref rt), some (.ref nl), none, none, none] from rfl]
  clear hu hu0 nd hr
  push_cast [spNext, spTermT]
  have sz := sizeLine_eq
  obtain ⟨sa, da, ds, g1, g2, g3⟩ := hR
  obtain ⟨kt, rt', ra, hb, hkt, hrt, hRA⟩ := hB
  obtain ⟨r1, r2, r3⟩ := bk.sh r hrm
  have nt : ∀ {a : Addr} {xs : List V}, H a = some (.tup xs) → a ≠ d := fun h => ne_of h hD.1 (by intro e; cases e)
  refine ⟨Nat.zero_le _, fun p hp => rIxT_ok (same_new hp _ _ _ g1) rfl ⟨sa, rfl, ⟨_, SqT.of (same_new hp _ _ _ g2)⟩, ?_⟩⟩
  have npd : p ≠ d := (ne_of_none hD.1 hp).symm
  refine forW_tup (xs := r.shape) (fun i σ H' => ∃ (ws : List V) (n' : Nat) (v5 v6 : Option V), σ = [some (.ref d), some (.ref bt), some (.ref rt), some (.ref nl), some (.ref p), v5, v6] ∧ SameB d H H' ∧ H' d = some (.lst [.ref b, .int (n' : Int)]) ∧ n' ≤ n + 8 * i ∧ H' p = some (.lst ws) ∧ ws.length ≤ 7 * i ∧ Fill kinds (r.shape.take i) ws)
    ⟨[], n, none, none, rfl, (SameB.refl d H).upd hp _, same_new hp _ _ _ hD.1, by omega, upd_same, Nat.le_refl _, .nil⟩ (fun i σ H' _ h => by obtain ⟨_, _, _, _, _, s, _⟩ := h; exact SqT.of (s _ _ (nt g2) g2)) ?_ ?_
  · rintro i v σ H5 hvi ⟨ws, n', v5, v6, rfl, s5, d5, hn5, p5, hl5, hF⟩
    have hil : i < r.shape.length := (List.getElem?_eq_some_iff.mp hvi).1
    have hvw := r1 v (List.mem_of_getElem? hvi)
    have fl : (kinds.map V.str).all flatV = true := List.all_eq_true.mpr fun x hx => by obtain ⟨z, _, rfl⟩ := List.mem_map.mp hx; rfl
    have tk : r.shape.take (i + 1) = r.shape.take i ++ [v] := by rw [List.take_add_one, hvi]; rfl
    rw [tk]
    push_cast [spNext, spTermT, rIn, CPow]
    refine ⟨b, ns, n', hD.next s5 d5, by omega, fun c H6 s6 d6 => ?_⟩
    have S6 := s5.trans s6
    have p6 := s6 p _ npd p5
    refine rIxT_ok (S6 _ _ (nt hb) hb) rfl ⟨kt, rfl, _, .inr (SqT.of (S6 _ _ (nt hkt) hkt)), hvw.flat, fl, ?_⟩
    have app : ∀ v', Part kinds v [v'] → rAppend (.ref p) [v'] H6 fun _ H1 => SameB d H H1 ∧ ∃ (x : List V) (x_1 : Nat), H1 d = some (.lst [.ref b, .int (x_1 : Int)]) ∧ x_1 ≤ n + 8 * (i + 1) ∧ H1 p = some (.lst x) ∧ x.length ≤ 7 * (i + 1) ∧ Fill kinds (r.shape.take i ++ [v]) x := fun v' hP =>
      (append_ok (K := K) p6 (by omega) ⟨S6.upd hp _, ws ++ [v'], n' + 1, by rw [upd_ne npd.symm]; exact d6, by omega, upd_same, by rw [List.length_append, List.length_singleton]; omega, hF.snoc hP⟩).2
    have hN6 := hN.sameB hD S6
    have nva : ¬ varW = V.str (Str.ofString "any") := by decide +kernel
    rcases letW_cases (kinds := kinds) hvw with ⟨rfl, h⟩ | ⟨rfl, h⟩ | ⟨⟨z, hz, rfl⟩, h⟩ | ⟨h, hno⟩
    · rw [if_neg (by rw [show inV anyW (kinds.map V.str) = false from bk.kd.out (.inl rfl)]; decide)]
      refine ⟨hvw.sc _, ?_⟩
      rw [if_pos (show anyW = V.str (Str.ofString "any") from rfl)]
      exact ⟨tyV_list p6, by decide, by decide +kernel, app _ (.inr (.inl ⟨h, _, rfl⟩))⟩
    · rw [if_neg (by rw [show inV varW (kinds.map V.str) = false from bk.kd.out (.inr rfl)]; decide)]
      refine ⟨hvw.sc _, ?_⟩
      rw [if_neg nva]
      refine ⟨hvw.sc _, ?_⟩
      rw [if_pos (show varW = V.str (Str.ofString "var") from rfl)]
      obtain ⟨y, hy, hym⟩ := atI_in (zs.map V.str) (c % 60) (Int.emod_nonneg _ (by decide)) (by rw [List.length_map, hN.2.1]; show c % 60 < 60; omega)
      obtain ⟨z, hz, rfl⟩ := List.mem_map.mp hym
      exact ⟨tyV_list p6, rIxL_ok hN6.1 hy (app _ (.inr (.inr (.inl ⟨h, z, hN.2.2.2 z hz, rfl⟩))))⟩
    · rw [if_pos (letH h)]
      refine ⟨tyV_list p6, b, ns, zs, (1 + c % 7).toNat, by omega, n' + 1, hD.next S6 d6, hN6, by omega, by omega, by omega, fun t n2 H7 ws2 s7 d7 hn7 ht h7 tw2 hl7 => ⟨ws2, .inr (SqT.of h7), fun l hl => ?_⟩⟩
      have p7 := s7 p _ npd p6
      refine ⟨p, l, ws, ws2, rfl, rfl, same_new hl _ _ _ p7, upd_same, by omega, ((S6.trans s7).upd ((S6.trans s7).free d7 hl) _).upd hp _, ws ++ ws2, n2, by rw [upd_ne npd.symm]; exact same_new hl _ _ _ d7, by omega, upd_same, by rw [List.length_append]; omega, hF.snoc (.inl ⟨h, tw2.w, tw2.one⟩)⟩
    · obtain ⟨na, nv⟩ := letO h
      rw [if_neg (by rw [hno]; decide)]
      refine ⟨hvw.sc _, ?_⟩
      rw [if_neg (show ¬ v = V.str (Str.ofString "any") from na)]
      refine ⟨hvw.sc _, ?_⟩
      rw [if_neg (show ¬ v = V.str (Str.ofString "var") from nv)]
      exact ⟨tyV_list p6, app _ (.inr (.inr (.inr ⟨h, rfl⟩)))⟩
  · rintro σ H5 ⟨ws, n', v5, v6, rfl, s5, d5, hn5, p5, hl5, hF⟩
    rw [List.take_length] at hF
    push_cast [and_true]
    refine ⟨ws, .inl ⟨SqL.of p5, fun t ht => ?_⟩⟩
    have htn := s5.free d5 ht
    have hf := fill_laid bk.kd [] ⟨[], [], []⟩ hF r1
    exact q t _ ws (s5.upd htn _) htn upd_same ⟨fill_tw bk.kd hF r1, fill_pend bk.kd 1 hF r1 r2, by omega⟩ hf
abbrev sDeeds : Stmt := top 15
theorem scDeeds : FnScope ["kinds", "shape", "stack", "deeds", "free", "back", "at", "word", "count", "read", "turn", "box"] ["kinds", "shape"] (defScope sDeeds) := ⟨rfl, rfl, rfl, by decide +kernel, rfl, by decide +kernel, by decide +kernel⟩
theorem hasDeeds (G : Gs w K mg) (D : Def K mg "_law_deeds" sDeeds ["kinds", "shape"]) : Has P w K mg base (k + 1) "_law_deeds" ["kinds", "shape"] (spDeeds K) := by
  refine D.has scDeeds (fun vs H Q E h => ?_) (fun f cdv A outer s H vs Q E hr h => ?_)
  · obtain ⟨_, _, _, _, rfl, _, _, _, _, _⟩ := h
    rfl
  have nd := scDeeds.nd
  have hu := hu_of hr
  have hu0 := Nat.lt_of_succ_lt hu
  obtain ⟨kt, st, kinds, sh, rfl, hK, hS, hk, ok, q⟩ := h
  have m_int := G.m_int
  have m_isinstance := G.m_isinstance
  have m_len := G.m_len
  have m_range := G.m_range
  have m_str := G.m_str
  have m_tuple := G.m_tuple
  refine ⟨_, (@pss_cons _ _ _ _ _ (@ps_set _ _ 2 _ _ _ _ nd rfl (by first | exact Or.inl rfl | exact Or.inr rfl) (@pe_lst _ _ _ _ (@pa_nil _)) (by rfl) (by first | exact .inl rfl | exact .inr rfl | assumption)) (@pss_cons _ _ _ _ _ (@ps_set _ _ 3 _ _ _ _ nd rfl (by first | exact Or.inl rfl | exact Or.inr rfl) (@pe_lst _ _ _ _ (@pa_nil _)) (by rfl) (by first | exact .inl rfl | exact .inr rfl | assumption)) (@pss_cons _ _ _ _ _ (@ps_set _ _ 4 _ _ _ _ nd rfl (by first | exact Or.inl rfl | exact Or.inr rfl) (@pe_lst _ _ _ _ (@pa_const _ _ _ (@CsOk.str _ _ _ _ _ (@CsOk.str _ _ _ _ _ (@CsOk.str _ _ _ _ _ (@CsOk.nil)))))) (by rfl) (by first | exact .inl rfl | exact .inr rfl | assumption)) (@pss_cons _ _ _ _ _ (@ps_for _ _ _ _ _ _ _ _ PassesOwn.never rfl (@pi_range1 _ _ _ _ _ _ rfl m_range (@pa_cons _ _ _ _ _ (@pe_callB _ _ _ _ _ _ _ _ _ (@call_len_seq _) rfl m_len b_len (@pa_cons _ _ _ _ _ (@pvD _ 1 _ _ (by rfl) (by first | exact Or.inl rfl | exact Or.inr (Or.inl rfl) | exact Or.inr (Or.inr rfl)) (by decide) (by decide)) (@pa_nil _) (by rfl)) (by decide) (by decide) (by rfl) (by rfl)) (@pa_nil _) (by rfl)) (by rfl)) (@pg_name _ _ 5 _ nd rfl (by first | exact Or.inl rfl | exact Or.inr rfl) (by first | exact .inl rfl | exact .inr rfl | assumption)) (@pss_cons _ _ _ _ _ (@ps_set _ _ 6 _ _ _ _ nd rfl (by first | exact Or.inl rfl | exact Or.inr rfl) (@pe_op _ _ _ _ _ _ _ _ (@op_sub _) (@pe_op _ _ _ _ _ _ _ _ (@op_sub _) (@pe_callB _ _ _ _ _ _ _ _ _ (@call_len_seq _) rfl m_len b_len (@pa_cons _ _ _ _ _ (@pvD _ 1 _ _ (by rfl) (by first | exact Or.inl rfl | exact Or.inr (Or.inl rfl) | exact Or.inr (Or.inr rfl)) (by decide) (by decide)) (@pa_nil _) (by rfl)) (by decide) (by decide) (by rfl) (by rfl)) (@pe_int _ _ _ _)) (@pvD _ 5 _ _ (by rfl) (by first | exact Or.inl rfl | exact Or.inr (Or.inl rfl) | exact Or.inr (Or.inr rfl)) (by decide) (by decide))) (by rfl) (by first | exact .inl rfl | exact .inr rfl | assumption)) (@pss_cons _ _ _ _ _ (@ps_set _ _ 7 _ _ _ _ nd rfl (by first | exact Or.inl rfl | exact Or.inr rfl) (@pe_ix _ _ _ _ _ _ _ (@ix_tup _) (@pvD _ 1 _ _ (by rfl) (by first | exact Or.inl rfl | exact Or.inr (Or.inl rfl) | exact Or.inr (Or.inr rfl)) (by decide) (by decide)) (@pvD _ 6 _ _ (by rfl) (by first | exact Or.inl rfl | exact Or.inr (Or.inl rfl) | exact Or.inr (Or.inr rfl)) (by decide) (by decide)) (fun _ _ => rfl)) (by rfl) (by first | exact .inl rfl | exact .inr rfl | assumption)) (@pss_cons _ _ _ _ _ (@ps_set _ _ 8 _ _ _ _ nd rfl (by first | exact Or.inl rfl | exact Or.inr rfl) (@pe_callTy _ _ _ _ _ _ _ _ _ (@call_str_any _) rfl m_str b_str (@pa_cons _ _ _ _ _ (@pe_callB _ _ _ _ _ _ _ _ _ (@call_len_seq _) rfl m_len b_len (@pa_cons _ _ _ _ _ (@pe_lc _ _ _ _ _ _ _ _ _ _ _ _ _ _ _ (@ClOk.mk _ _ ["one"] ["word", "kinds"] [7, 0] _ rfl rfl rfl rfl (And.intro rfl (And.intro rfl trivial)) rfl (And.intro (And.intro rfl (And.intro rfl rfl)) (And.intro (And.intro rfl (And.intro rfl rfl)) trivial))) rfl (@pi_tup _ _ _ _ (@pe_slice _ _ _ _ _ _ _ _ _ _ (@sl_tupU _) (@pvD _ 1 _ _ (by rfl) (by first | exact Or.inl rfl | exact Or.inr (Or.inl rfl) | exact Or.inr (Or.inr rfl)) (by decide) (by decide)) (@po_none _) (@po_some _ _ _ (@pe_op _ _ _ _ _ _ _ _ (@op_add _) (@pvD _ 6 _ _ (by rfl) (by first | exact Or.inl rfl | exact Or.inr (Or.inl rfl) | exact Or.inr (Or.inr rfl)) (by decide) (by decide)) (@pe_int _ _ _ _))))) (fun _ _ _ => (@pg_name _ _ 0 _ (show List.Nodup (["one", "word", "kinds"] : List Str) by decide +kernel) rfl (Or.inl rfl) (by first | exact .inl rfl | exact .inr rfl | assumption))) (fun _ _ _ => (@pif1 _ _ _ (@PW.pt _ _ _ (@pw_or _ _ _ _ _ _ _ (@pt_cmpR _ _ _ _ _ _ _ _ (@op_eq _) (@pvD _ 0 _ _ (by rfl) (by first | exact Or.inl rfl | exact Or.inr (Or.inl rfl) | exact Or.inr (Or.inr rfl)) (by decide) (by decide)) (@pvD _ 1 _ _ (by rfl) (by first | exact Or.inl rfl | exact Or.inr (Or.inl rfl) | exact Or.inr (Or.inr rfl)) (by decide) (by decide)) (@nomark _ _ (by decide) (by decide))) (@pw_or1 _ _ _ _ (@PW.pt _ _ _ (@pw_and _ _ _ _ _ _ _ (@pt_cmpR _ _ _ _ _ _ _ _ (@op_in_seqK _ K rfl) (@pvD _ 1 _ _ (by rfl) (by first | exact Or.inl rfl | exact Or.inr (Or.inl rfl) | exact Or.inr (Or.inr rfl)) (by decide) (by decide)) (@pvD _ 2 _ _ (by rfl) (by first | exact Or.inl rfl | exact Or.inr (Or.inl rfl) | exact Or.inr (Or.inr rfl)) (by decide) (by decide)) (by with_unfolding_all rfl)) (@pw_and1 _ _ _ _ (@pt_cmpR _ _ _ _ _ _ _ _ (@op_in_seqK _ K rfl) (@pvD _ 0 _ _ (by rfl) (by first | exact Or.inl rfl | exact Or.inr (Or.inl rfl) | exact Or.inr (Or.inr rfl)) (by decide) (by decide)) (@pvD _ 2 _ _ (by rfl) (by first | exact Or.inl rfl | exact Or.inr (Or.inl rfl) | exact Or.inr (Or.inr rfl)) (by decide) (by decide)) (by with_unfolding_all rfl)))))))))) (fun _ _ _ => (@pvD _ 0 _ _ (by rfl) (by first | exact Or.inl rfl | exact Or.inr (Or.inl rfl) | exact Or.inr (Or.inr rfl)) (by decide) (by decide))) (by intro _; rfl)) (@pa_nil _) (by rfl)) (by decide) (by decide) (by rfl) (by rfl)) (@pa_nil _) (by rfl)) (by decide) (by decide) (by rfl) (by rfl)) (by rfl) (by first | exact .inl rfl | exact .inr rfl | assumption)) (@pss_cons _ _ _ _ _ (@ps_if _ _ _ _ _ _ _ _ (@pt_cmpR _ _ _ _ _ _ _ _ (@op_in_seq _) (@pvD _ 7 _ _ (by rfl) (by first | exact Or.inl rfl | exact Or.inr (Or.inl rfl) | exact Or.inr (Or.inr rfl)) (by decide) (by decide)) (@pvD _ 0 _ _ (by rfl) (by first | exact Or.inl rfl | exact Or.inr (Or.inl rfl) | exact Or.inr (Or.inr rfl)) (by decide) (by decide)) (by with_unfolding_all rfl)) (@pss_cons _ _ _ _ _ (@ps_expr _ _ _ _ (@pe_bm _ _ _ _ _ _ _ _ _ _ _ _ PySem.F.plainAttrs_list PySem.F.slot_list_append PySem.F.type_list_append (@mt_append _) (@pvD _ 2 _ _ (by rfl) (by first | exact Or.inl rfl | exact Or.inr (Or.inl rfl) | exact Or.inr (Or.inr rfl)) (by decide) (by decide)) (@pa_cons _ _ _ _ _ (@pe_op _ _ _ _ _ _ _ _ (@op_add_str _) (@pe_str _ _ _ _) (@pvD _ 8 _ _ (by rfl) (by first | exact Or.inl rfl | exact Or.inr (Or.inl rfl) | exact Or.inr (Or.inr rfl)) (by decide) (by decide))) (@pa_nil _) (by rfl)) (by rfl) (by rfl) (by rfl) (by rfl) (by rfl)) (by rfl)) (@pss_one _ _ _ (@ps_continue _ _))) (@pss_nil _)) (@pss_cons _ _ _ _ _ (@ps_set _ _ 9 _ _ _ _ nd rfl (by first | exact Or.inl rfl | exact Or.inr rfl) (@pe_lst _ _ _ _ (@pa_nil _)) (by rfl) (by first | exact .inl rfl | exact .inr rfl | assumption)) (@pss_cons _ _ _ _ _ (@ps_for _ _ _ _ _ _ _ _ PassesOwn.never rfl (@pi_range1 _ _ _ _ _ _ rfl m_range (@pa_cons _ _ _ _ _ (@pe_op _ _ _ _ _ _ _ _ (@op_add _) (@pe_callTy _ _ _ _ _ _ _ _ _ (@call_int1 _) rfl m_int b_int (@pa_cons _ _ _ _ _ (@pe_cmpR _ _ _ _ _ _ _ _ (@op_in_seq _) (@pvD _ 7 _ _ (by rfl) (by first | exact Or.inl rfl | exact Or.inr (Or.inl rfl) | exact Or.inr (Or.inr rfl)) (by decide) (by decide)) (@pe_lst _ _ _ _ (@pa_const _ _ _ (@CsOk.str _ _ _ _ _ (@CsOk.str _ _ _ _ _ (@CsOk.str _ _ _ _ _ (@CsOk.str _ _ _ _ _ (@CsOk.nil))))))) (by with_unfolding_all rfl)) (@pa_nil _) (by rfl)) (by decide) (by decide) (by rfl) (by rfl)) (@pe_callTy _ _ _ _ _ _ _ _ _ (@call_int1 _) rfl m_int b_int (@pa_cons _ _ _ _ _ (@pe_cmpR _ _ _ _ _ _ _ _ (@op_in_seq _) (@pvD _ 7 _ _ (by rfl) (by first | exact Or.inl rfl | exact Or.inr (Or.inl rfl) | exact Or.inr (Or.inr rfl)) (by decide) (by decide)) (@pe_lst _ _ _ _ (@pa_const _ _ _ (@CsOk.str _ _ _ _ _ (@CsOk.str _ _ _ _ _ (@CsOk.str _ _ _ _ _ (@CsOk.nil)))))) (by with_unfolding_all rfl)) (@pa_nil _) (by rfl)) (by decide) (by decide) (by rfl) (by rfl))) (@pa_nil _) (by rfl)) (by rfl)) (@pg_name _ _ 10 _ nd rfl (by first | exact Or.inl rfl | exact Or.inr rfl) (by first | exact .inl rfl | exact .inr rfl | assumption)) (@pss_one _ _ _ (@ps_expr _ _ _ _ (@pe_bm _ _ _ _ _ _ _ _ _ _ _ _ PySem.F.plainAttrs_list PySem.F.slot_list_append PySem.F.type_list_append (@mt_append _) (@pvD _ 9 _ _ (by rfl) (by first | exact Or.inl rfl | exact Or.inr (Or.inl rfl) | exact Or.inr (Or.inr rfl)) (by decide) (by decide)) (@pa_cons _ _ _ _ _ (@pe_bm0 _ _ _ _ _ _ _ _ _ PySem.F.plainAttrs_list PySem.F.slot_list_pop PySem.F.type_list_pop (@mt_pop _) (@pvD _ 2 _ _ (by rfl) (by first | exact Or.inl rfl | exact Or.inr (Or.inl rfl) | exact Or.inr (Or.inr rfl)) (by decide) (by decide)) (by rfl) (by rfl)) (@pa_nil _) (by rfl)) (by rfl) (by rfl) (by rfl) (by rfl) (by rfl)) (by rfl))) (by intro _; rfl)) (@pss_cons _ _ _ _ _ (@ps_expr _ _ _ _ (@pe_bm _ _ _ _ _ _ _ _ _ _ _ _ PySem.F.plainAttrs_list PySem.F.slot_list_extend PySem.F.type_list_extend (@mt_extend _) (@pvD _ 4 _ _ (by rfl) (by first | exact Or.inl rfl | exact Or.inr (Or.inl rfl) | exact Or.inr (Or.inr rfl)) (by decide) (by decide)) (@pa_cons _ _ _ _ _ (@pe_lc _ _ _ _ _ _ _ _ _ _ _ _ _ _ _ (@ClOk.mk _ _ ["box"] [] [] _ rfl rfl rfl rfl trivial rfl trivial) rfl (@pi_list _ _ _ _ (@pvD _ 9 _ _ (by rfl) (by first | exact Or.inl rfl | exact Or.inr (Or.inl rfl) | exact Or.inr (Or.inr rfl)) (by decide) (by decide))) (fun _ _ _ => (@pg_name _ _ 0 _ (show List.Nodup (["box"] : List Str) by decide +kernel) rfl (Or.inl rfl) (by first | exact .inl rfl | exact .inr rfl | assumption))) (fun _ _ _ => (@pif1 _ _ _ (@pt_cmpR _ _ _ _ _ _ _ _ (@op_eq _) (@pe_ix _ _ _ _ _ _ _ (@ix_str _) (@pvD _ 0 _ _ (by rfl) (by first | exact Or.inl rfl | exact Or.inr (Or.inl rfl) | exact Or.inr (Or.inr rfl)) (by decide) (by decide)) (@pe_int _ _ _ _) (fun _ _ => rfl)) (@pe_str _ _ _ _) (@nomark _ _ (by decide) (by decide))))) (fun _ _ _ => (@pvD _ 0 _ _ (by rfl) (by first | exact Or.inl rfl | exact Or.inr (Or.inl rfl) | exact Or.inr (Or.inr rfl)) (by decide) (by decide))) (by intro _; rfl)) (@pa_nil _) (by rfl)) (by rfl) (by rfl) (by rfl) (by rfl) (by rfl)) (by rfl)) (@pss_cons _ _ _ _ _ (@ps_set _ _ 11 _ _ _ _ nd rfl (by first | exact Or.inl rfl | exact Or.inr rfl) (@pe_str _ _ _ _) (by rfl) (by first | exact .inl rfl | exact .inr rfl | assumption)) (@pss_mid _ _ _ _ _ (@ps_if _ _ _ _ _ _ _ _ (@pt_cmpR _ _ _ _ _ _ _ _ (@op_gt _) (@pvD _ 6 _ _ (by rfl) (by first | exact Or.inl rfl | exact Or.inr (Or.inl rfl) | exact Or.inr (Or.inr rfl)) (by decide) (by decide)) (@pe_int _ _ _ _) (@nomark _ _ (by decide) (by decide))) (@pss_one _ _ _ (@ps_set _ _ 11 _ _ _ _ nd rfl (by first | exact Or.inl rfl | exact Or.inr rfl) (@pe_bm0 _ _ _ _ _ _ _ _ _ PySem.F.plainAttrs_list PySem.F.slot_list_pop PySem.F.type_list_pop (@mt_pop _) (@pvD _ 4 _ _ (by rfl) (by first | exact Or.inl rfl | exact Or.inr (Or.inl rfl) | exact Or.inr (Or.inr rfl)) (by decide) (by decide)) (by rfl) (by rfl)) (by rfl) (by first | exact .inl rfl | exact .inr rfl | assumption))) (@pss_nil _)) (@pss_mid _ _ _ _ _ (@ps_if _ _ _ _ _ _ _ _ (@pt_cmpR _ _ _ _ _ _ _ _ (@op_eq _) (@pvD _ 7 _ _ (by rfl) (by first | exact Or.inl rfl | exact Or.inr (Or.inl rfl) | exact Or.inr (Or.inr rfl)) (by decide) (by decide)) (@pe_str _ _ _ _) (@nomark _ _ (by decide) (by decide))) (@pss_one _ _ _ (@ps_expr _ _ _ _ (@pe_bm _ _ _ _ _ _ _ _ _ _ _ _ PySem.F.plainAttrs_list PySem.F.slot_list_append PySem.F.type_list_append (@mt_append _) (@pvD _ 3 _ _ (by rfl) (by first | exact Or.inl rfl | exact Or.inr (Or.inl rfl) | exact Or.inr (Or.inr rfl)) (by decide) (by decide)) (@pa_cons _ _ _ _ _ (@pe_tup _ _ _ _ _ (@pa_cons _ _ _ _ _ (@pe_str _ _ _ _) (@pa_cons _ _ _ _ _ (@pvD _ 11 _ _ (by rfl) (by first | exact Or.inl rfl | exact Or.inr (Or.inl rfl) | exact Or.inr (Or.inr rfl)) (by decide) (by decide)) (@pa_cons _ _ _ _ _ (@pe_op _ _ _ _ _ _ _ _ (@op_add_str _) (@pe_str _ _ _ _) (@pvD _ 8 _ _ (by rfl) (by first | exact Or.inl rfl | exact Or.inr (Or.inl rfl) | exact Or.inr (Or.inr rfl)) (by decide) (by decide))) (@pa_nil _) (by rfl)) (by rfl)) (by rfl))) (@pa_nil _) (by rfl)) (by rfl) (by rfl) (by rfl) (by rfl) (by rfl)) (by rfl))) (@pss_one _ _ _ (@ps_if _ _ _ _ _ _ _ _ (@pt_cmpR _ _ _ _ _ _ _ _ (@op_eq _) (@pvD _ 7 _ _ (by rfl) (by first | exact Or.inl rfl | exact Or.inr (Or.inl rfl) | exact Or.inr (Or.inr rfl)) (by decide) (by decide)) (@pe_str _ _ _ _) (@nomark _ _ (by decide) (by decide))) (@pss_one _ _ _ (@ps_expr _ _ _ _ (@pe_bm _ _ _ _ _ _ _ _ _ _ _ _ PySem.F.plainAttrs_list PySem.F.slot_list_append PySem.F.type_list_append (@mt_append _) (@pvD _ 3 _ _ (by rfl) (by first | exact Or.inl rfl | exact Or.inr (Or.inl rfl) | exact Or.inr (Or.inr rfl)) (by decide) (by decide)) (@pa_cons _ _ _ _ _ (@pe_tup _ _ _ _ _ (@pa_cons _ _ _ _ _ (@pe_str _ _ _ _) (@pa_cons _ _ _ _ _ (@pvD _ 11 _ _ (by rfl) (by first | exact Or.inl rfl | exact Or.inr (Or.inl rfl) | exact Or.inr (Or.inr rfl)) (by decide) (by decide)) (@pa_cons _ _ _ _ _ (@pe_op _ _ _ _ _ _ _ _ (@op_add_str _) (@pe_str _ _ _ _) (@pvD _ 8 _ _ (by rfl) (by first | exact Or.inl rfl | exact Or.inr (Or.inl rfl) | exact Or.inr (Or.inr rfl)) (by decide) (by decide))) (@pa_nil _) (by rfl)) (by rfl)) (by rfl))) (@pa_nil _) (by rfl)) (by rfl) (by rfl) (by rfl) (by rfl) (by rfl)) (by rfl))) (@pss_one _ _ _ (@ps_if _ _ _ _ _ _ _ _ (@pt_val _ _ _ (@pe_callB _ _ _ _ _ _ _ _ _ (@call_isinst _) rfl m_isinstance b_isinstance (@pa_cons _ _ _ _ _ (@pvD _ 7 _ _ (by rfl) (by first | exact Or.inl rfl | exact Or.inr (Or.inl rfl) | exact Or.inr (Or.inr rfl)) (by decide) (by decide)) (@pa_cons _ _ _ _ _ (@pe_gty _ _ _ _ m_int b_int (by rfl) (by decide +kernel) (by decide +kernel)) (@pa_nil _) (by rfl)) (by rfl)) (by decide) (by decide) (by rfl) (by rfl)) (by intro _; rfl)) (@pss_one _ _ _ (@ps_expr _ _ _ _ (@pe_bm _ _ _ _ _ _ _ _ _ _ _ _ PySem.F.plainAttrs_list PySem.F.slot_list_append PySem.F.type_list_append (@mt_append _) (@pvD _ 3 _ _ (by rfl) (by first | exact Or.inl rfl | exact Or.inr (Or.inl rfl) | exact Or.inr (Or.inr rfl)) (by decide) (by decide)) (@pa_cons _ _ _ _ _ (@pe_tup _ _ _ _ _ (@pa_cons _ _ _ _ _ (@pe_str _ _ _ _) (@pa_cons _ _ _ _ _ (@pvD _ 11 _ _ (by rfl) (by first | exact Or.inl rfl | exact Or.inr (Or.inl rfl) | exact Or.inr (Or.inr rfl)) (by decide) (by decide)) (@pa_cons _ _ _ _ _ (@pvD _ 7 _ _ (by rfl) (by first | exact Or.inl rfl | exact Or.inr (Or.inl rfl) | exact Or.inr (Or.inr rfl)) (by decide) (by decide)) (@pa_nil _) (by rfl)) (by rfl)) (by rfl))) (@pa_nil _) (by rfl)) (by rfl) (by rfl) (by rfl) (by rfl) (by rfl)) (by rfl))) (@pss_one _ _ _ (@ps_expr _ _ _ _ (@pe_bm _ _ _ _ _ _ _ _ _ _ _ _ PySem.F.plainAttrs_list PySem.F.slot_list_append PySem.F.type_list_append (@mt_append _) (@pvD _ 3 _ _ (by rfl) (by first | exact Or.inl rfl | exact Or.inr (Or.inl rfl) | exact Or.inr (Or.inr rfl)) (by decide) (by decide)) (@pa_cons _ _ _ _ _ (@pe_op _ _ _ _ _ _ _ _ (@op_catU _) (@pe_tup _ _ _ _ _ (@pa_cons _ _ _ _ _ (@pvD _ 7 _ _ (by rfl) (by first | exact Or.inl rfl | exact Or.inr (Or.inl rfl) | exact Or.inr (Or.inr rfl)) (by decide) (by decide)) (@pa_cons _ _ _ _ _ (@pvD _ 11 _ _ (by rfl) (by first | exact Or.inl rfl | exact Or.inr (Or.inl rfl) | exact Or.inr (Or.inr rfl)) (by decide) (by decide)) (@pa_nil _) (by rfl)) (by rfl))) (@pe_callTy _ _ _ _ _ _ _ _ _ (@call_tuple_of _) rfl m_tuple b_tuple (@pa_cons _ _ _ _ _ (@pvD _ 9 _ _ (by rfl) (by first | exact Or.inl rfl | exact Or.inr (Or.inl rfl) | exact Or.inr (Or.inr rfl)) (by decide) (by decide)) (@pa_nil _) (by rfl)) (by decide) (by decide) (by rfl) (by rfl))) (@pa_nil _) (by rfl)) (by rfl) (by rfl) (by rfl) (by rfl) (by rfl)) (by rfl)))))))) (@pss_one _ _ _ (@ps_expr _ _ _ _ (@pe_bm _ _ _ _ _ _ _ _ _ _ _ _ PySem.F.plainAttrs_list PySem.F.slot_list_append PySem.F.type_list_append (@mt_append _) (@pvD _ 2 _ _ (by rfl) (by first | exact Or.inl rfl | exact Or.inr (Or.inl rfl) | exact Or.inr (Or.inr rfl)) (by decide) (by decide)) (@pa_cons _ _ _ _ _ (@pvD _ 11 _ _ (by rfl) (by first | exact Or.inl rfl | exact Or.inr (Or.inl rfl) | exact Or.inr (Or.inr rfl)) (by decide) (by decide)) (@pa_nil _) (by rfl)) (by rfl) (by rfl) (by rfl) (by rfl) (by rfl)) (by rfl))))))))))))) (by intro _; rfl)) (@pss_cons _ _ _ _ _ (@ps_if _ _ _ _ _ _ _ _ (@pt_cmpR _ _ _ _ _ _ _ _ (@op_eq _) (@pe_callB _ _ _ _ _ _ _ _ _ (@call_len_seq _) rfl m_len b_len (@pa_cons _ _ _ _ _ (@pvD _ 3 _ _ (by rfl) (by first | exact Or.inl rfl | exact Or.inr (Or.inl rfl) | exact Or.inr (Or.inr rfl)) (by decide) (by decide)) (@pa_nil _) (by rfl)) (by decide) (by decide) (by rfl) (by rfl)) (@pe_int _ _ _ _) (@nomark _ _ (by decide) (by decide))) (@pss_one _ _ _ (@ps_ret _ _ _ _ (@pe_tup _ _ _ _ _ (@pa_cons _ _ _ _ _ (@pe_tup _ _ _ _ _ (@pa_const _ _ _ (@CsOk.str _ _ _ _ _ (@CsOk.str _ _ _ _ _ (@CsOk.int _ _ _ _ _ (@CsOk.nil)))))) (@pa_cons _ _ _ _ _ (@pe_tup _ _ _ _ _ (@pa_const _ _ _ (@CsOk.str _ _ _ _ _ (@CsOk.str _ _ _ _ _ (@CsOk.str _ _ _ _ _ (@CsOk.str _ _ _ _ _ (@CsOk.nil))))))) (@pa_nil _) (by rfl)) (by rfl))))) (@pss_nil _)) (@pss_one _ _ _ (@ps_ret _ _ _ _ (@pe_callTy _ _ _ _ _ _ _ _ _ (@call_tuple_of _) rfl m_tuple b_tuple (@pa_cons _ _ _ _ _ (@pvD _ 3 _ _ (by rfl) (by first | exact Or.inl rfl | exact Or.inr (Or.inl rfl) | exact Or.inr (Or.inr rfl)) (by decide) (by decide)) (@pa_nil _) (by rfl)) (by decide) (by decide) (by rfl) (by rfl))))))))), ?_⟩
  rw [show start ["kinds", "shape", "stack", "deeds", "free", "back", "at", "word", "count", "read", "turn", "box"] [.ref kt, .ref st] = [some (.ref kt), some (.ref st), none, none, none, none, none, none, none, none, none, none] from rfl]
  clear hu hu0 nd hr
  push_cast [and_true]
  have sz := sizeLine_eq
  have hlen := ok.len
  refine ⟨Nat.zero_le _, fun sp h1 => ⟨Nat.zero_le _, fun dp h2 => ⟨by show (3 : Nat) ≤ sizeLine; decide, fun fp h3 => ?_⟩⟩⟩
  have nsd : sp ≠ dp := ne_of_none upd_same h2
  have nsf : sp ≠ fp := ne_of_none (same_new h2 _ _ _ upd_same) h3
  have ndf : dp ≠ fp := ne_of_none upd_same h3
  have S1 := same_new h1 (.lst [])
  have fd := S1.free h2
  have S2 := S1.trans (same_new h2 (.lst []))
  have ff := S2.free h3
  have S3 := S2.trans (same_new h3 (.lst [V.str (Str.ofString "t3"), V.str (Str.ofString "t2"), V.str (Str.ofString "t1")]))
  have z3 := same_new h3 (.lst [V.str (Str.ofString "t3"), V.str (Str.ofString "t2"), V.str (Str.ofString "t1")]) _ _ (same_new h2 (.lst []) _ _ (upd_same (H := H) (a := sp) (o := .lst [])))
  have d3 := same_new h3 (.lst [V.str (Str.ofString "t3"), V.str (Str.ofString "t2"), V.str (Str.ofString "t1")]) _ _ (upd_same (H := upd H sp (.lst [])) (a := dp) (o := .lst []))
  have f3 : upd (upd (upd H sp (.lst [])) dp (.lst [])) fp (.lst [V.str (Str.ofString "t3"), V.str (Str.ofString "t2"), V.str (Str.ofString "t1")]) fp = some (.lst ([Str.ofString "t3", Str.ofString "t2", Str.ofString "t1"].map V.str)) := upd_same
  generalize upd (upd (upd H sp (.lst [])) dp (.lst [])) fp (.lst [V.str (Str.ofString "t3"), V.str (Str.ofString "t2"), V.str (Str.ofString "t1")]) = H3 at S3 z3 d3 f3 ⊢
  refine ⟨sh, .inr (SqT.of (S3 _ _ hS)), by omega, by omega, ?_⟩
  rw [show ((sh.length : Nat) : Int).toNat = sh.length by omega]
  refine forW_range (lo := 0) (fun j σ H' => ∃ (zs fs : List Str) (ds : List V) (v5 v6 v7 v8 v9 v10 v11 : Option V), σ = [some (.ref kt), some (.ref st), some (.ref sp), some (.ref dp), some (.ref fp), v5, v6, v7, v8, v9, v10, v11] ∧ Same H H' ∧ H' sp = some (.lst (zs.map V.str)) ∧ H' dp = some (.lst ds) ∧ H' fp = some (.lst (fs.map V.str)) ∧ ds.length ≤ j ∧ DI kinds sh (sh.length - j) zs fs)
    ⟨[], _, [], none, none, none, none, none, none, none, rfl, S3, z3, d3, f3, Nat.le_refl _, DI.start ok⟩ ?_ ?_
  · rintro j σ H5 hj ⟨zs, fs, ds, v5, v6, v7, v8, v9, v10, v11, rfl, s5, z5, d5, f5, hdl, di⟩
    obtain ⟨p, hp⟩ : ∃ p, p + j + 1 = sh.length := ⟨sh.length - 1 - j, by omega⟩
    rw [show sh.length - j = p + 1 by omega] at di
    rw [show sh.length - (j + 1) = p by omega]
    have hpl : p < sh.length := by omega
    have hv : sh[p]? = some sh[p] := List.getElem?_eq_getElem hpl
    have hvw := ok.w _ (List.getElem_mem hpl)
    have hat : atI sh (p : Int) = some sh[p] := atI_nat hv
    generalize sh[p] = v at hv hvw hat
    have fl : (kinds.map V.str).all flatV = true := List.all_eq_true.mpr fun x hx => by obtain ⟨z, _, rfl⟩ := List.mem_map.mp hx; rfl
    have zll := pend_le _ _ di.pd
    rw [List.length_map, List.length_drop] at zll
    push_cast [and_true]
    refine ⟨sh, .inr (SqT.of (s5 _ _ hS)), ?_⟩
    rw [show ((sh.length : Int) - 1 - (0 + (j : Int))) = (p : Int) by omega]
    refine rIxT_ok (s5 _ _ hS) hat (rSlU_ok (s5 _ _ hS) fun a H6 s6 h6 => ⟨a, rfl, ⟨_, SqT.of h6⟩, fun D hD => ?_⟩)
    have e6 : (p : Int) + 1 = ((p + 1 : Nat) : Int) := by omega
    rw [e6, cut_head sh (p + 1) (by omega)] at h6
    have S6 := s5.trans s6
    refine lc_tup (fun i ys => True) (SqT.of h6) (by rw [List.length_take]; omega) hD trivial (fun i x ys H1 G' K' hx hP hl2 hS' hG hK' => ?_) fun ys H7 hP hl2 s7 hD2 => ?_
    · have hxw := ok.w x (List.mem_of_mem_take (List.mem_of_getElem? hx))
      have kk := SqT.of (K := K) (hS' _ _ (S6 _ _ hK))
      push_cast [rIn]
      exact ⟨hxw.sc2 hvw, ite2 (fun _ => hK' _ _ (Same.refl _) trivial) fun _ => ⟨_, .inr kk, hvw.flat, fl, ite2 (fun _ => ⟨_, .inr kk, hxw.flat, fl, ite2 (fun _ => hK' _ _ (Same.refl _) trivial) fun _ => hG _ (Same.refl _) trivial⟩) fun _ => hG _ (Same.refl _) trivial⟩⟩
    rw [List.length_take] at hl2
    have S7 := S6.trans s7
    have z7 := s7 _ _ (s6 _ _ z5)
    have d7 := s7 _ _ (s6 _ _ d5)
    have f7 := s7 _ _ (s6 _ _ f5)
    obtain ⟨tx1, tx2⟩ := text_short (n := ys.length) (by omega)
    refine ⟨ys, .inl (SqL.of hD2), tx2, kt, _, rfl, .inr (SqT.of (S7 _ _ hK)), hvw.flat, fl, _, rfl, ?_⟩
    generalize textV (V.int (ys.length : Int)) = tx at tx1 ⊢
    clear hD hD2 hl2 tx2 s7 s6 h6 S6 hP
    rw [show ∀ x y : Bool, (if false = true then x else y) = y from fun _ _ => rfl]
    have h1l : (Str.ofString "h").length = 1 := by decide +kernel
    cases hin : inV v (kinds.map V.str) with
    | true =>
      rw [if_pos rfl]
      refine ⟨tyV_list z7, by omega, (append_ok (K := K) z7 (by rw [List.length_map]; omega) ?_).2⟩
      push_cast [tCont]
      exact ⟨S7.upd h1 _, zs ++ [Str.ofString "h" ++ tx], by rw [upd_same, List.map_append]; rfl, fs, ds, by rw [upd_ne nsd.symm]; exact d7, by rw [upd_ne nsf.symm]; exact f7, by omega, di.hole hv (kind_ar hk hvw hin) (isT_h tx) (by rw [Str.length_append, h1l]; omega)⟩
    | false =>
      rw [if_neg Bool.false_ne_true]
      push_cast [and_true]
      refine ⟨Nat.zero_le _, fun rp hrp => ⟨by show (4 : Nat) ≤ sizeLine; decide, fun p1 hp1 => ⟨p1, _, rfl, .inl (SqL.of upd_same), hvw.flat, rfl, .inr ⟨_, rfl, by show (3 : Nat) ≤ sizeLine; decide, fun p2 hp2 => ⟨p2, _, rfl, .inl (SqL.of upd_same), hvw.flat, rfl, .inr ⟨_, rfl, ?_⟩⟩⟩⟩⟩⟩
      rw [show ∀ x y : Bool, (if false = true then x else y) = y from fun _ _ => rfl, show ∀ x y : Bool, (if false = true then x else y) = y from fun _ _ => rfl]
      have oc := ops_count hvw
      rw [show ((if inV v [V.str (Str.ofString "add"), V.str (Str.ofString "sub"), V.str (Str.ofString "mul"), V.str (Str.ofString "neg")] = true then (1 : Int) else 0) + if inV v [V.str (Str.ofString "add"), V.str (Str.ofString "sub"), V.str (Str.ofString "mul")] = true then 1 else 0) = (arV v : Int) from oc]
      have ar2 := arV_le v
      refine ⟨by omega, by omega, ?_⟩
      rw [show ((arV v : Nat) : Int).toNat = arV v by omega]
      have frp := S7.free hrp
      have nrs : rp ≠ sp := (ne_of_none z7 hrp).symm
      have nrd : rp ≠ dp := (ne_of_none d7 hrp).symm
      have nrf : rp ≠ fp := (ne_of_none f7 hrp).symm
      have q8 := (same_new hrp (.lst [])).trans ((same_new hp1 (.lst [V.str (Str.ofString "add"), V.str (Str.ofString "sub"), V.str (Str.ofString "mul"), V.str (Str.ofString "neg")])).trans (same_new hp2 (.lst [V.str (Str.ofString "add"), V.str (Str.ofString "sub"), V.str (Str.ofString "mul")])))
      have r8 := same_new hp2 (.lst [V.str (Str.ofString "add"), V.str (Str.ofString "sub"), V.str (Str.ofString "mul")]) _ _ (same_new hp1 (.lst [V.str (Str.ofString "add"), V.str (Str.ofString "sub"), V.str (Str.ofString "mul"), V.str (Str.ofString "neg")]) _ _ (upd_same (H := H7) (a := rp) (o := .lst [])))
      have S8 := S7.trans q8
      have z8 := q8 _ _ z7
      have d8 := q8 _ _ d7
      have f8 := q8 _ _ f7
      generalize upd (upd (upd H7 rp (.lst [])) p1 (.lst [V.str (Str.ofString "add"), V.str (Str.ofString "sub"), V.str (Str.ofString "mul"), V.str (Str.ofString "neg")])) p2 (.lst [V.str (Str.ofString "add"), V.str (Str.ofString "sub"), V.str (Str.ofString "mul")]) = H8 at q8 r8 S8 z8 d8 f8 ⊢
      obtain ⟨hale, _, _, _⟩ := di.less hv
      refine forW_range (lo := 0) (fun k σ H' => ∃ v10 : Option V, σ = [some (.ref kt), some (.ref st), some (.ref sp), some (.ref dp), some (.ref fp), some (.int (0 + (j : Int))), some (.int (p : Int)), some v, some (.str tx), some (.ref rp), v10, v11] ∧ Same H H' ∧ H' sp = some (.lst ((zs.take (zs.length - k)).map V.str)) ∧ H' rp = some (.lst ((zs.drop (zs.length - k)).reverse.map V.str)) ∧ H' dp = some (.lst ds) ∧ H' fp = some (.lst (fs.map V.str))) ?_ ?_ ?_
      · refine ⟨v10, rfl, S8, ?_, ?_, d8, f8⟩
        · rw [Nat.sub_zero, List.take_length]; exact z8
        · rw [Nat.sub_zero, List.drop_length]; exact r8
      · rintro k σ H9 hk9 ⟨w10, rfl, s9, z9, r9, d9, f9⟩
        push_cast [and_true]
        obtain ⟨m, hm⟩ : ∃ m, m + 1 = zs.length - k := ⟨zs.length - k - 1, by omega⟩
        rw [← hm] at z9 r9
        rw [show zs.length - (k + 1) = m by omega]
        have hml : m < zs.length := by omega
        have et : zs.take (m + 1) = zs.take m ++ [zs[m]] := by rw [List.take_add_one, List.getElem?_eq_getElem hml]; rfl
        have ed9 : zs.drop m = zs[m] :: zs.drop (m + 1) := List.drop_eq_getElem_cons hml
        rw [et, List.map_append] at z9
        refine ⟨tyV_list r9, pop_ok z9 (append_ok (K := K) (by rw [upd_ne nrs]; exact r9) (by rw [List.length_map, List.length_reverse, List.length_drop]; omega) ⟨(s9.upd h1 _).upd frp _, by rw [upd_ne nrs.symm, upd_same], ?_, by rw [upd_ne nrd.symm, upd_ne nsd.symm]; exact d9, by rw [upd_ne nrf.symm, upd_ne nsf.symm]; exact f9⟩).2⟩
        rw [upd_same, ed9, List.reverse_cons, List.map_append]
        rfl
      · rintro σ H9 ⟨w10, rfl, s9, z9, r9, d9, f9⟩
        obtain ⟨rd, hrd⟩ : ∃ rd, rd = zs.drop (zs.length - arV v) := ⟨_, rfl⟩
        obtain ⟨zs0, hz0⟩ : ∃ zs0, zs0 = zs.take (zs.length - arV v) := ⟨_, rfl⟩
        rw [← hrd] at r9
        rw [← hz0] at z9
        have ezs : zs = zs0 ++ rd := by rw [hrd, hz0, List.take_append_drop]
        have rdl : rd.length = arV v := by rw [hrd, List.length_drop]; omega
        obtain ⟨dp1, dp2, dp3⟩ := di.put hk ok hv hin ezs rdl
        push_cast [and_true]
        refine ⟨tyV_list f9, ⟨_, SqL.of r9⟩, fun D hD => ?_⟩
        refine lc_list (fun i ys => ys = ((rd.reverse.take i).filter isT).map V.str) (SqL.of r9) (by rw [List.length_map, List.length_reverse]; omega) hD rfl (fun i x ys H1 G' K' hx hP hl2 hS' hG hK' => ?_) fun ys H10 hP hl2 s10 hD2 => ?_
        · rw [List.getElem?_map] at hx
          obtain ⟨z, hz, rfl⟩ := Option.map_eq_some_iff.mp hx
          have hzr : z ∈ rd := List.mem_reverse.mp (List.mem_of_getElem? hz)
          obtain ⟨zl1, zl2⟩ := di.zl z (by rw [ezs]; exact List.mem_append_right _ hzr)
          obtain ⟨c, hc, hct⟩ := first_at zl1
          have tk : rd.reverse.take (i + 1) = rd.reverse.take i ++ [z] := by rw [List.take_add_one, hz]; rfl
          push_cast [rIxS]
          refine ⟨by omega, c, hc, rfl, ite2 (fun e => hK' _ _ (Same.refl _) ?_) fun e => hG _ (Same.refl _) ?_⟩
          · have e' : isT z = true := hct.mp (by rw [e])
            rw [tk, List.filter_append, List.map_append, hP, List.filter_cons, e']
            rfl
          · have e' : isT z = false := Bool.eq_false_iff.mpr fun e2 => e (V.str.inj (hct.mpr e2))
            rw [tk, List.filter_append, List.map_append, hP, List.filter_cons, e']
            show _ = _ ++ []
            rw [List.append_nil]
        · rw [List.length_map, List.take_length] at hP
          obtain ⟨gs, hgs⟩ : ∃ gs, gs = rd.reverse.filter isT := ⟨_, rfl⟩
          rw [← hgs] at hP
          have gl : gs.length = tc rd := by rw [hgs]; unfold tc; rw [List.filter_reverse, List.length_reverse]
          have gt : ∀ y ∈ gs, isT y = true ∧ 1 ≤ y.length ∧ y.length ≤ 100 := fun y hy => by
            rw [hgs] at hy
            obtain ⟨y1, y2⟩ := List.mem_filter.mp hy
            exact ⟨y2, di.zl y (by rw [ezs]; exact List.mem_append_right _ (List.mem_reverse.mp y1))⟩
          have tl : tc rd ≤ rd.length := List.length_filter_le _ _
          have fl3 : fs.length ≤ 3 := by have := di.three; omega
          subst hP
          refine ⟨fp, D, fs.map V.str, gs.map V.str, rfl, rfl, s10 _ _ f9, hD2, by rw [List.length_map, List.length_map]; omega, ?_⟩
          have S11 := (s9.trans s10).upd ff (.lst (fs.map V.str ++ gs.map V.str))
          have z11 : upd H10 fp (.lst (fs.map V.str ++ gs.map V.str)) sp = some (.lst (zs0.map V.str)) := by rw [upd_ne nsf]; exact s10 _ _ z9
          have r11 : upd H10 fp (.lst (fs.map V.str ++ gs.map V.str)) rp = some (.lst (rd.reverse.map V.str)) := by rw [upd_ne nrf]; exact s10 _ _ r9
          have d11 : upd H10 fp (.lst (fs.map V.str ++ gs.map V.str)) dp = some (.lst ds) := by rw [upd_ne ndf]; exact s10 _ _ d9
          have f11 : upd H10 fp (.lst (fs.map V.str ++ gs.map V.str)) fp = some (.lst ((fs ++ gs).map V.str)) := by rw [upd_same, List.map_append]
          generalize upd H10 fp (.lst (fs.map V.str ++ gs.map V.str)) = H11 at S11 z11 r11 d11 f11 ⊢
          have ft : ∀ y ∈ fs ++ gs, isT y = true ∧ 1 ≤ y.length ∧ y.length ≤ 100 := fun y hy => by
            rcases List.mem_append.mp hy with g | g
            · exact di.fl y g
            · exact gt y g
          have fgl : (fs ++ gs).length = fs.length + tc rd := by rw [List.length_append, gl]
          generalize fs ++ gs = fg at f11 ft fgl
          refine tMid_of (fun σ' H12 => ∃ (box : Str) (fs2 : List Str), σ' = [some (.ref kt), some (.ref st), some (.ref sp), some (.ref dp), some (.ref fp), some (.int (0 + (j : Int))), some (.int (p : Int)), some v, some (.str tx), some (.ref rp), w10, some (.str box)] ∧ Same H H12 ∧ H12 sp = some (.lst (zs0.map V.str)) ∧ H12 rp = some (.lst (rd.reverse.map V.str)) ∧ H12 dp = some (.lst ds) ∧ H12 fp = some (.lst (fs2.map V.str)) ∧ DI kinds sh p (zs0 ++ [box]) fs2) ?_ ?_
          · push_cast [and_true]
            refine ite2 (fun p0 => ?_) fun p0 => ⟨S11, z11, r11, d11, fg, f11, dp2 _ fg fgl isT_out (by decide +kernel) (by decide +kernel) ft⟩
            have ne : fg ≠ [] := by
              intro e
              rw [e] at fgl
              have := dp3 (by omega)
              simp at fgl
              omega
            have ec : fg.dropLast ++ [fg.getLast ne] = fg := List.dropLast_concat_getLast ne
            rw [← ec, List.map_append] at f11
            have hb := ft _ (List.getLast_mem ne)
            have el : fg.dropLast.length + 1 = fg.length := by rw [List.length_dropLast]; have := List.length_pos_iff.mpr ne; omega
            refine pop_ok f11 ⟨_, rfl, S11.upd ff _, by rw [upd_ne nsf]; exact z11, by rw [upd_ne nrf]; exact r11, by rw [upd_ne ndf]; exact d11, fg.dropLast, upd_same, ?_⟩
            exact dp1 _ _ (by omega) hb.1 hb.2.1 hb.2.2 fun y hy => ft y ((List.dropLast_sublist fg).subset hy)
          rintro _ H12 ⟨box, fs2, rfl, s12, z12, r12, d12, f12, di12⟩
          have hbl := di12.zl box (List.mem_append_right _ List.mem_cons_self)
          refine tMid_of (fun σ' H13 => ∃ ds2 : List V, σ' = [some (.ref kt), some (.ref st), some (.ref sp), some (.ref dp), some (.ref fp), some (.int (0 + (j : Int))), some (.int (p : Int)), some v, some (.str tx), some (.ref rp), w10, some (.str box)] ∧ Same H H13 ∧ H13 sp = some (.lst (zs0.map V.str)) ∧ H13 dp = some (.lst ds2) ∧ H13 fp = some (.lst (fs2.map V.str)) ∧ ds2.length ≤ j + 1) ?_ ?_
          · push_cast [and_true]
            have nl1 : (Str.ofString "n").length = 1 := by decide +kernel
            have vl1 : (Str.ofString "v").length = 1 := by decide +kernel
            have app : ∀ (y : V) (H' : Hp), Same H12 H' → rAppend (.ref dp) [y] H' fun _ H1 => Same H H1 ∧ H1 sp = some (.lst (zs0.map V.str)) ∧ ∃ x : List V, H1 dp = some (.lst x) ∧ H1 fp = some (.lst (fs2.map V.str)) ∧ x.length ≤ j + 1 := fun y H' s' =>
              (append_ok (K := K) (s' _ _ d12) (by omega) ⟨(s12.trans s').upd fd _, by rw [upd_ne nsd]; exact s' _ _ z12, ds ++ [y], upd_same, by rw [upd_ne ndf.symm]; exact s' _ _ f12, by rw [List.length_append, List.length_singleton]; omega⟩).2
            refine ⟨hvw.sc _, ite2 (fun _ => ⟨tyV_list d12, by omega, by show (3 : Nat) ≤ sizeLine; decide, fun p3 hp3 => app _ _ (same_new hp3 _)⟩) fun _ => ⟨hvw.sc _, ite2 (fun _ => ⟨tyV_list d12, by omega, by show (3 : Nat) ≤ sizeLine; decide, fun p3 hp3 => app _ _ (same_new hp3 _)⟩) fun _ => ?_⟩⟩
            obtain ⟨k', rfl⟩ := hvw
            cases k' with
            | inl i0 => exact ⟨_, .int i0, true, rfl, iteT ⟨tyV_list d12, by show (3 : Nat) ≤ sizeLine; decide, fun p3 hp3 => app _ _ (same_new hp3 _)⟩⟩
            | inr z0 => exact ⟨_, .str z0, false, rfl, iteF ⟨tyV_list d12, by show (2 : Nat) ≤ sizeLine; decide, fun p3 hp3 => ⟨_, .inl ⟨SqL.of (same_new hp3 _ _ _ r12), fun l hl => rCatU_ok (same_new hl _ _ _ upd_same) upd_same (by rw [List.length_map, List.length_reverse]; show 2 + rd.length ≤ _; omega) fun b H14 s14 h14 => app _ _ ((same_new hp3 _).trans ((same_new hl _).trans s14))⟩⟩⟩⟩
          · rintro _ H13 ⟨ds2, rfl, s13, z13, d13, f13, hd13⟩
            push_cast [and_true]
            have z0l : zs0.length ≤ zs.length := by rw [hz0, List.length_take]; omega
            exact append_ok z13 (by rw [List.length_map]; omega) ⟨s13.upd h1 _, zs0 ++ [box], by rw [upd_same, List.map_append]; rfl, fs2, ds2, by rw [upd_ne nsd.symm]; exact d13, by rw [upd_ne nsf.symm]; exact f13, hd13, di12⟩
  · rintro σ H5 ⟨zs, fs, ds, v5, v6, v7, v8, v9, v10, v11, rfl, s5, z5, d5, f5, hdl, di⟩
    push_cast [and_true]
    refine ⟨ds, .inl (SqL.of d5), rfl, ite2 (fun _ => ⟨by show (3 : Nat) ≤ sizeLine; decide, fun p1 hp1 => ⟨by show (4 : Nat) ≤ sizeLine; decide, fun p2 hp2 => ⟨by show (2 : Nat) ≤ sizeLine; decide, fun p3 hp3 => ?_⟩⟩⟩) fun _ => ⟨ds, .inl ⟨SqL.of d5, fun l hl => q l _ _ (s5.trans (same_new hl _)) upd_same⟩⟩⟩
    exact q p3 _ _ (((s5.trans (same_new hp1 _)).trans (same_new hp2 _)).trans (same_new hp3 _)) upd_same
abbrev sBook : Stmt := top 16
theorem scBook : FnScope ["deck", "names", "cell", "many", "drawn", "kinds", "first", "shapes", "k", "one", "shape", "rules", "kind", "price", "at"] ["deck", "names"] (defScope sBook) := ⟨rfl, rfl, rfl, by decide +kernel, rfl, by decide +kernel, by decide +kernel⟩
theorem hasBook (G : Gs w K mg) (h_law_deeds : Has P w K mg base k "_law_deeds" ["kinds", "shape"] (spDeeds K)) (h_law_next : Has P w K mg base k "_law_next" ["deck"] spNext) (h_law_shape : Has P w K mg base k "_law_shape" ["deck", "kinds"] spShape) (D : Def K mg "_law_book" sBook ["deck", "names"]) : Has P w K mg base (k + 1) "_law_book" ["deck", "names"] spBook := by
  refine D.has scBook (fun vs H Q E h => ?_) (fun f cdv A outer s H vs Q E hr h => ?_)
  · obtain ⟨_, _, _, _, _, _, rfl, _, _, _, _⟩ := h
    rfl
  have nd := scBook.nd
  have hu := hu_of hr
  have hu0 := Nat.lt_of_succ_lt hu
  obtain ⟨d, nl, b, ns, zs, n, rfl, hD, hN, hn, q⟩ := h
  have m_len := G.m_len
  have m_range := G.m_range
  have m_tuple := G.m_tuple
  refine ⟨_, (@pss_cons _ _ _ _ _ (@ps_set _ _ 2 _ _ _ _ nd rfl (by first | exact Or.inl rfl | exact Or.inr rfl) (@pe_has _ _ _ _ _ _ _ _ _ _ h_law_next hr (@pa_cons _ _ _ _ _ (@pvD _ 0 _ _ (by rfl) (by first | exact Or.inl rfl | exact Or.inr (Or.inl rfl) | exact Or.inr (Or.inr rfl)) (by decide) (by decide)) (@pa_nil _) (by rfl)) (by rfl) (by decide +kernel) (by rfl) (by rfl)) (by rfl) (by first | exact .inl rfl | exact .inr rfl | assumption)) (@pss_cons _ _ _ _ _ (@ps_set _ _ 3 _ _ _ _ nd rfl (by first | exact Or.inl rfl | exact Or.inr rfl) (@pe_op _ _ _ _ _ _ _ _ (@op_add _) (@pe_int _ _ _ _) (@pe_op _ _ _ _ _ _ _ _ (@op_mod _) (@pvD _ 2 _ _ (by rfl) (by first | exact Or.inl rfl | exact Or.inr (Or.inl rfl) | exact Or.inr (Or.inr rfl)) (by decide) (by decide)) (@pe_int _ _ _ _))) (by rfl) (by first | exact .inl rfl | exact .inr rfl | assumption)) (@pss_cons _ _ _ _ _ (@ps_set _ _ 4 _ _ _ _ nd rfl (by first | exact Or.inl rfl | exact Or.inr rfl) (@pe_op _ _ _ _ _ _ _ _ (@op_add _) (@pe_int _ _ _ _) (@pe_op _ _ _ _ _ _ _ _ (@op_mod _) (@pe_op _ _ _ _ _ _ _ _ (@op_fdiv _) (@pvD _ 2 _ _ (by rfl) (by first | exact Or.inl rfl | exact Or.inr (Or.inl rfl) | exact Or.inr (Or.inr rfl)) (by decide) (by decide)) (@pe_int _ _ _ _)) (@pe_int _ _ _ _))) (by rfl) (by first | exact .inl rfl | exact .inr rfl | assumption)) (@pss_mid _ _ _ _ _ (@ps_if _ _ _ _ _ _ _ _ (@pt_cmpR _ _ _ _ _ _ _ _ (@op_eq _) (@pe_op _ _ _ _ _ _ _ _ (@op_mod _) (@pe_op _ _ _ _ _ _ _ _ (@op_fdiv _) (@pvD _ 2 _ _ (by rfl) (by first | exact Or.inl rfl | exact Or.inr (Or.inl rfl) | exact Or.inr (Or.inr rfl)) (by decide) (by decide)) (@pe_int _ _ _ _)) (@pe_int _ _ _ _)) (@pe_int _ _ _ _) (@nomark _ _ (by decide) (by decide))) (@pss_cons _ _ _ _ _ (@ps_set _ _ 3 _ _ _ _ nd rfl (by first | exact Or.inl rfl | exact Or.inr rfl) (@pe_op _ _ _ _ _ _ _ _ (@op_add _) (@pe_int _ _ _ _) (@pe_op _ _ _ _ _ _ _ _ (@op_mod _) (@pe_op _ _ _ _ _ _ _ _ (@op_fdiv _) (@pvD _ 2 _ _ (by rfl) (by first | exact Or.inl rfl | exact Or.inr (Or.inl rfl) | exact Or.inr (Or.inr rfl)) (by decide) (by decide)) (@pe_int _ _ _ _)) (@pe_int _ _ _ _))) (by rfl) (by first | exact .inl rfl | exact .inr rfl | assumption)) (@pss_one _ _ _ (@ps_set _ _ 4 _ _ _ _ nd rfl (by first | exact Or.inl rfl | exact Or.inr rfl) (@pe_int _ _ _ _) (by rfl) (by first | exact .inl rfl | exact .inr rfl | assumption)))) (@pss_nil _)) (@pss_cons _ _ _ _ _ (@ps_set _ _ 5 _ _ _ _ nd rfl (by first | exact Or.inl rfl | exact Or.inr rfl) (@pe_callTy _ _ _ _ _ _ _ _ _ (@call_tuple_of _) rfl m_tuple b_tuple (@pa_cons _ _ _ _ _ (@pe_slice _ _ _ _ _ _ _ _ _ _ (@sl_list _) (@pvD _ 1 _ _ (by rfl) (by first | exact Or.inl rfl | exact Or.inr (Or.inl rfl) | exact Or.inr (Or.inr rfl)) (by decide) (by decide)) (@po_none _) (@po_some _ _ _ (@pvD _ 3 _ _ (by rfl) (by first | exact Or.inl rfl | exact Or.inr (Or.inl rfl) | exact Or.inr (Or.inr rfl)) (by decide) (by decide)))) (@pa_nil _) (by rfl)) (by decide) (by decide) (by rfl) (by rfl)) (by rfl) (by first | exact .inl rfl | exact .inr rfl | assumption)) (@pss_cons _ _ _ _ _ (@ps_set _ _ 6 _ _ _ _ nd rfl (by first | exact Or.inl rfl | exact Or.inr rfl) (@pe_ix _ _ _ _ _ _ _ (@ix_tup _) (@pvD _ 5 _ _ (by rfl) (by first | exact Or.inl rfl | exact Or.inr (Or.inl rfl) | exact Or.inr (Or.inr rfl)) (by decide) (by decide)) (@pe_int _ _ _ _) (fun _ _ => rfl)) (by rfl) (by first | exact .inl rfl | exact .inr rfl | assumption)) (@pss_cons _ _ _ _ _ (@ps_set _ _ 7 _ _ _ _ nd rfl (by first | exact Or.inl rfl | exact Or.inr rfl) (@pe_lst _ _ _ _ (@pa_cons _ _ _ _ _ (@pe_tup _ _ _ _ _ (@pa_cons _ _ _ _ _ (@pvD _ 6 _ _ (by rfl) (by first | exact Or.inl rfl | exact Or.inr (Or.inl rfl) | exact Or.inr (Or.inr rfl)) (by decide) (by decide)) (@pa_cons _ _ _ _ _ (@pe_tup _ _ _ _ _ (@pa_cons _ _ _ _ _ (@pe_str _ _ _ _) (@pa_nil _) (by rfl))) (@pa_nil _) (by rfl)) (by rfl))) (@pa_cons _ _ _ _ _ (@pe_tup _ _ _ _ _ (@pa_cons _ _ _ _ _ (@pvD _ 6 _ _ (by rfl) (by first | exact Or.inl rfl | exact Or.inr (Or.inl rfl) | exact Or.inr (Or.inr rfl)) (by decide) (by decide)) (@pa_cons _ _ _ _ _ (@pe_tup _ _ _ _ _ (@pa_cons _ _ _ _ _ (@pe_str _ _ _ _) (@pa_nil _) (by rfl))) (@pa_nil _) (by rfl)) (by rfl))) (@pa_cons _ _ _ _ _ (@pe_tup _ _ _ _ _ (@pa_cons _ _ _ _ _ (@pvD _ 6 _ _ (by rfl) (by first | exact Or.inl rfl | exact Or.inr (Or.inl rfl) | exact Or.inr (Or.inr rfl)) (by decide) (by decide)) (@pa_cons _ _ _ _ _ (@pe_tup _ _ _ _ _ (@pa_cons _ _ _ _ _ (@pe_str _ _ _ _) (@pa_cons _ _ _ _ _ (@pvD _ 6 _ _ (by rfl) (by first | exact Or.inl rfl | exact Or.inr (Or.inl rfl) | exact Or.inr (Or.inr rfl)) (by decide) (by decide)) (@pa_cons _ _ _ _ _ (@pvD _ 6 _ _ (by rfl) (by first | exact Or.inl rfl | exact Or.inr (Or.inl rfl) | exact Or.inr (Or.inr rfl)) (by decide) (by decide)) (@pa_nil _) (by rfl)) (by rfl)) (by rfl))) (@pa_nil _) (by rfl)) (by rfl))) (@pa_cons _ _ _ _ _ (@pe_tup _ _ _ _ _ (@pa_cons _ _ _ _ _ (@pvD _ 6 _ _ (by rfl) (by first | exact Or.inl rfl | exact Or.inr (Or.inl rfl) | exact Or.inr (Or.inr rfl)) (by decide) (by decide)) (@pa_cons _ _ _ _ _ (@pe_tup _ _ _ _ _ (@pa_cons _ _ _ _ _ (@pe_str _ _ _ _) (@pa_cons _ _ _ _ _ (@pvD _ 6 _ _ (by rfl) (by first | exact Or.inl rfl | exact Or.inr (Or.inl rfl) | exact Or.inr (Or.inr rfl)) (by decide) (by decide)) (@pa_nil _) (by rfl)) (by rfl))) (@pa_nil _) (by rfl)) (by rfl))) (@pa_nil _) (by rfl)) (by rfl)) (by rfl)) (by rfl))) (by rfl) (by first | exact .inl rfl | exact .inr rfl | assumption)) (@pss_cons _ _ _ _ _ (@ps_set _ _ 7 _ _ _ _ nd rfl (by first | exact Or.inl rfl | exact Or.inr rfl) (@pe_lc _ _ _ _ _ _ _ _ _ _ _ _ _ _ _ (@ClOk.mk _ _ ["k"] ["cell", "shapes"] [2, 7] _ rfl rfl rfl rfl (And.intro rfl (And.intro rfl trivial)) rfl (And.intro (And.intro rfl (And.intro rfl rfl)) (And.intro (And.intro rfl (And.intro rfl rfl)) trivial))) rfl (@pi_range1 _ _ _ _ _ _ rfl m_range (@pa_cons _ _ _ _ _ (@pe_int _ _ _ _) (@pa_nil _) (by rfl)) (by rfl)) (fun _ _ _ => (@pg_name _ _ 0 _ (show List.Nodup (["k", "cell", "shapes"] : List Str) by decide +kernel) rfl (Or.inl rfl) (by first | exact .inl rfl | exact .inr rfl | assumption))) (fun _ _ _ => (@pif1 _ _ _ (@pt_cmpR _ _ _ _ _ _ _ _ (@op_ne _) (@pe_op _ _ _ _ _ _ _ _ (@op_mod _) (@pe_op _ _ _ _ _ _ _ _ (@op_fdiv _) (@pe_op _ _ _ _ _ _ _ _ (@op_fdiv _) (@pvD _ 1 _ _ (by rfl) (by first | exact Or.inl rfl | exact Or.inr (Or.inl rfl) | exact Or.inr (Or.inr rfl)) (by decide) (by decide)) (@pe_int _ _ _ _)) (@pe_ix _ _ _ _ _ _ _ (@ix_listK _ K rfl) (@pe_lst _ _ _ _ (@pa_const _ _ _ (@CsOk.int _ _ _ _ _ (@CsOk.int _ _ _ _ _ (@CsOk.int _ _ _ _ _ (@CsOk.int _ _ _ _ _ (@CsOk.nil))))))) (@pvD _ 0 _ _ (by rfl) (by first | exact Or.inl rfl | exact Or.inr (Or.inl rfl) | exact Or.inr (Or.inr rfl)) (by decide) (by decide)) (fun _ _ => rfl))) (@pe_int _ _ _ _)) (@pe_int _ _ _ _) (@nomark _ _ (by decide) (by decide))))) (fun _ _ _ => (@pe_ix _ _ _ _ _ _ _ (@ix_listK _ K rfl) (@pvD _ 2 _ _ (by rfl) (by first | exact Or.inl rfl | exact Or.inr (Or.inl rfl) | exact Or.inr (Or.inr rfl)) (by decide) (by decide)) (@pvD _ 0 _ _ (by rfl) (by first | exact Or.inl rfl | exact Or.inr (Or.inl rfl) | exact Or.inr (Or.inr rfl)) (by decide) (by decide)) (fun _ _ => rfl))) (by intro _; rfl)) (by rfl) (by first | exact .inl rfl | exact .inr rfl | assumption)) (@pss_cons _ _ _ _ _ (@ps_for _ _ _ _ _ _ _ _ PassesOwn.never rfl (@pi_range1 _ _ _ _ _ _ rfl m_range (@pa_cons _ _ _ _ _ (@pvD _ 4 _ _ (by rfl) (by first | exact Or.inl rfl | exact Or.inr (Or.inl rfl) | exact Or.inr (Or.inr rfl)) (by decide) (by decide)) (@pa_nil _) (by rfl)) (by rfl)) (@pg_name _ _ 8 _ nd rfl (by first | exact Or.inl rfl | exact Or.inr rfl) (by first | exact .inl rfl | exact .inr rfl | assumption)) (@pss_cons _ _ _ _ _ (@ps_set _ _ 9 _ _ _ _ nd rfl (by first | exact Or.inl rfl | exact Or.inr rfl) (@pe_has _ _ _ _ _ _ _ _ _ _ h_law_next hr (@pa_cons _ _ _ _ _ (@pvD _ 0 _ _ (by rfl) (by first | exact Or.inl rfl | exact Or.inr (Or.inl rfl) | exact Or.inr (Or.inr rfl)) (by decide) (by decide)) (@pa_nil _) (by rfl)) (by rfl) (by decide +kernel) (by rfl) (by rfl)) (by rfl) (by first | exact .inl rfl | exact .inr rfl | assumption)) (@pss_cons _ _ _ _ _ (@ps_set _ _ 10 _ _ _ _ nd rfl (by first | exact Or.inl rfl | exact Or.inr rfl) (@pe_has _ _ _ _ _ _ _ _ _ _ h_law_shape hr (@pa_cons _ _ _ _ _ (@pvD _ 0 _ _ (by rfl) (by first | exact Or.inl rfl | exact Or.inr (Or.inl rfl) | exact Or.inr (Or.inr rfl)) (by decide) (by decide)) (@pa_cons _ _ _ _ _ (@pvD _ 5 _ _ (by rfl) (by first | exact Or.inl rfl | exact Or.inr (Or.inl rfl) | exact Or.inr (Or.inr rfl)) (by decide) (by decide)) (@pa_nil _) (by rfl)) (by rfl)) (by rfl) (by decide +kernel) (by rfl) (by rfl)) (by rfl) (by first | exact .inl rfl | exact .inr rfl | assumption)) (@pss_mid _ _ _ _ _ (@ps_if _ _ _ _ _ _ _ _ (@pt_cmpR _ _ _ _ _ _ _ _ (@op_eq _) (@pe_op _ _ _ _ _ _ _ _ (@op_mod _) (@pvD _ 9 _ _ (by rfl) (by first | exact Or.inl rfl | exact Or.inr (Or.inl rfl) | exact Or.inr (Or.inr rfl)) (by decide) (by decide)) (@pe_int _ _ _ _)) (@pe_int _ _ _ _) (@nomark _ _ (by decide) (by decide))) (@pss_one _ _ _ (@ps_set _ _ 10 _ _ _ _ nd rfl (by first | exact Or.inl rfl | exact Or.inr rfl) (@pe_tup _ _ _ _ _ (@pa_cons _ _ _ _ _ (@pe_ix _ _ _ _ _ _ _ (@ix_tup _) (@pvD _ 5 _ _ (by rfl) (by first | exact Or.inl rfl | exact Or.inr (Or.inl rfl) | exact Or.inr (Or.inr rfl)) (by decide) (by decide)) (@pe_op _ _ _ _ _ _ _ _ (@op_mod _) (@pe_op _ _ _ _ _ _ _ _ (@op_fdiv _) (@pvD _ 9 _ _ (by rfl) (by first | exact Or.inl rfl | exact Or.inr (Or.inl rfl) | exact Or.inr (Or.inr rfl)) (by decide) (by decide)) (@pe_int _ _ _ _)) (@pe_callB _ _ _ _ _ _ _ _ _ (@call_len_seq _) rfl m_len b_len (@pa_cons _ _ _ _ _ (@pvD _ 5 _ _ (by rfl) (by first | exact Or.inl rfl | exact Or.inr (Or.inl rfl) | exact Or.inr (Or.inr rfl)) (by decide) (by decide)) (@pa_nil _) (by rfl)) (by decide) (by decide) (by rfl) (by rfl))) (fun _ _ => rfl)) (@pa_nil _) (by rfl))) (by rfl) (by first | exact .inl rfl | exact .inr rfl | assumption))) (@pss_nil _)) (@pss_one _ _ _ (@ps_expr _ _ _ _ (@pe_bm _ _ _ _ _ _ _ _ _ _ _ _ PySem.F.plainAttrs_list PySem.F.slot_list_append PySem.F.type_list_append (@mt_append _) (@pvD _ 7 _ _ (by rfl) (by first | exact Or.inl rfl | exact Or.inr (Or.inl rfl) | exact Or.inr (Or.inr rfl)) (by decide) (by decide)) (@pa_cons _ _ _ _ _ (@pe_tup _ _ _ _ _ (@pa_cons _ _ _ _ _ (@pe_ix _ _ _ _ _ _ _ (@ix_tup _) (@pvD _ 5 _ _ (by rfl) (by first | exact Or.inl rfl | exact Or.inr (Or.inl rfl) | exact Or.inr (Or.inr rfl)) (by decide) (by decide)) (@pe_op _ _ _ _ _ _ _ _ (@op_mod _) (@pe_op _ _ _ _ _ _ _ _ (@op_fdiv _) (@pvD _ 9 _ _ (by rfl) (by first | exact Or.inl rfl | exact Or.inr (Or.inl rfl) | exact Or.inr (Or.inr rfl)) (by decide) (by decide)) (@pe_int _ _ _ _)) (@pe_callB _ _ _ _ _ _ _ _ _ (@call_len_seq _) rfl m_len b_len (@pa_cons _ _ _ _ _ (@pvD _ 5 _ _ (by rfl) (by first | exact Or.inl rfl | exact Or.inr (Or.inl rfl) | exact Or.inr (Or.inr rfl)) (by decide) (by decide)) (@pa_nil _) (by rfl)) (by decide) (by decide) (by rfl) (by rfl))) (fun _ _ => rfl)) (@pa_cons _ _ _ _ _ (@pvD _ 10 _ _ (by rfl) (by first | exact Or.inl rfl | exact Or.inr (Or.inl rfl) | exact Or.inr (Or.inr rfl)) (by decide) (by decide)) (@pa_nil _) (by rfl)) (by rfl))) (@pa_nil _) (by rfl)) (by rfl) (by rfl) (by rfl) (by rfl) (by rfl)) (by rfl)))))) (by intro _; rfl)) (@pss_cons _ _ _ _ _ (@ps_set _ _ 11 _ _ _ _ nd rfl (by first | exact Or.inl rfl | exact Or.inr rfl) (@pe_lst _ _ _ _ (@pa_nil _)) (by rfl) (by first | exact .inl rfl | exact .inr rfl | assumption)) (@pss_cons _ _ _ _ _ (@ps_for _ _ _ _ _ _ _ _ PassesOwn.never rfl (@pi_list _ _ _ _ (@pvD _ 7 _ _ (by rfl) (by first | exact Or.inl rfl | exact Or.inr (Or.inl rfl) | exact Or.inr (Or.inr rfl)) (by decide) (by decide))) (@pg_tup _ _ _ _ _ _ rfl (@pgs_cons _ _ _ _ _ (@pg_name _ _ 12 _ nd rfl (by first | exact Or.inl rfl | exact Or.inr rfl) (by first | exact .inl rfl | exact .inr rfl | assumption)) (@pgs_cons _ _ _ _ _ (@pg_name _ _ 10 _ nd rfl (by first | exact Or.inl rfl | exact Or.inr rfl) (by first | exact .inl rfl | exact .inr rfl | assumption)) (@pgs_nil _) (by rfl)) (by rfl)) (by rfl) (by rfl)) (@pss_cons _ _ _ _ _ (@ps_set _ _ 9 _ _ _ _ nd rfl (by first | exact Or.inl rfl | exact Or.inr rfl) (@pe_has _ _ _ _ _ _ _ _ _ _ h_law_next hr (@pa_cons _ _ _ _ _ (@pvD _ 0 _ _ (by rfl) (by first | exact Or.inl rfl | exact Or.inr (Or.inl rfl) | exact Or.inr (Or.inr rfl)) (by decide) (by decide)) (@pa_nil _) (by rfl)) (by rfl) (by decide +kernel) (by rfl) (by rfl)) (by rfl) (by first | exact .inl rfl | exact .inr rfl | assumption)) (@pss_cons _ _ _ _ _ (@ps_set _ _ 13 _ _ _ _ nd rfl (by first | exact Or.inl rfl | exact Or.inr rfl) (@pe_ix _ _ _ _ _ _ _ (@ix_list _) (@pe_lst _ _ _ _ (@pa_cons _ _ _ _ _ (@pe_op _ _ _ _ _ _ _ _ (@op_add _) (@pe_int _ _ _ _) (@pe_op _ _ _ _ _ _ _ _ (@op_mod _) (@pe_op _ _ _ _ _ _ _ _ (@op_fdiv _) (@pvD _ 9 _ _ (by rfl) (by first | exact Or.inl rfl | exact Or.inr (Or.inl rfl) | exact Or.inr (Or.inr rfl)) (by decide) (by decide)) (@pe_int _ _ _ _)) (@pe_int _ _ _ _))) (@pa_cons _ _ _ _ _ (@pe_op _ _ _ _ _ _ _ _ (@op_add _) (@pe_int _ _ _ _) (@pe_op _ _ _ _ _ _ _ _ (@op_mod _) (@pe_op _ _ _ _ _ _ _ _ (@op_fdiv _) (@pvD _ 9 _ _ (by rfl) (by first | exact Or.inl rfl | exact Or.inr (Or.inl rfl) | exact Or.inr (Or.inr rfl)) (by decide) (by decide)) (@pe_int _ _ _ _)) (@pe_int _ _ _ _))) (@pa_cons _ _ _ _ _ (@pe_op _ _ _ _ _ _ _ _ (@op_add _) (@pe_int _ _ _ _) (@pe_op _ _ _ _ _ _ _ _ (@op_mod _) (@pe_op _ _ _ _ _ _ _ _ (@op_fdiv _) (@pvD _ 9 _ _ (by rfl) (by first | exact Or.inl rfl | exact Or.inr (Or.inl rfl) | exact Or.inr (Or.inr rfl)) (by decide) (by decide)) (@pe_int _ _ _ _)) (@pe_int _ _ _ _))) (@pa_nil _) (by rfl)) (by rfl)) (by rfl))) (@pe_op _ _ _ _ _ _ _ _ (@op_mod _) (@pvD _ 9 _ _ (by rfl) (by first | exact Or.inl rfl | exact Or.inr (Or.inl rfl) | exact Or.inr (Or.inr rfl)) (by decide) (by decide)) (@pe_int _ _ _ _)) (fun _ _ => rfl)) (by rfl) (by first | exact .inl rfl | exact .inr rfl | assumption)) (@pss_one _ _ _ (@ps_expr _ _ _ _ (@pe_bm _ _ _ _ _ _ _ _ _ _ _ _ PySem.F.plainAttrs_list PySem.F.slot_list_append PySem.F.type_list_append (@mt_append _) (@pvD _ 11 _ _ (by rfl) (by first | exact Or.inl rfl | exact Or.inr (Or.inl rfl) | exact Or.inr (Or.inr rfl)) (by decide) (by decide)) (@pa_cons _ _ _ _ _ (@pe_tup _ _ _ _ _ (@pa_cons _ _ _ _ _ (@pe_ix _ _ _ _ _ _ _ (@ix_list _) (@pvD _ 1 _ _ (by rfl) (by first | exact Or.inl rfl | exact Or.inr (Or.inl rfl) | exact Or.inr (Or.inr rfl)) (by decide) (by decide)) (@pe_op _ _ _ _ _ _ _ _ (@op_add _) (@pe_int _ _ _ _) (@pe_callB _ _ _ _ _ _ _ _ _ (@call_len_seq _) rfl m_len b_len (@pa_cons _ _ _ _ _ (@pvD _ 11 _ _ (by rfl) (by first | exact Or.inl rfl | exact Or.inr (Or.inl rfl) | exact Or.inr (Or.inr rfl)) (by decide) (by decide)) (@pa_nil _) (by rfl)) (by decide) (by decide) (by rfl) (by rfl))) (fun _ _ => rfl)) (@pa_cons _ _ _ _ _ (@pvD _ 12 _ _ (by rfl) (by first | exact Or.inl rfl | exact Or.inr (Or.inl rfl) | exact Or.inr (Or.inr rfl)) (by decide) (by decide)) (@pa_cons _ _ _ _ _ (@pvD _ 13 _ _ (by rfl) (by first | exact Or.inl rfl | exact Or.inr (Or.inl rfl) | exact Or.inr (Or.inr rfl)) (by decide) (by decide)) (@pa_cons _ _ _ _ _ (@pvD _ 10 _ _ (by rfl) (by first | exact Or.inl rfl | exact Or.inr (Or.inl rfl) | exact Or.inr (Or.inr rfl)) (by decide) (by decide)) (@pa_cons _ _ _ _ _ (@pe_has _ _ _ _ _ _ _ _ _ _ h_law_deeds hr (@pa_cons _ _ _ _ _ (@pvD _ 5 _ _ (by rfl) (by first | exact Or.inl rfl | exact Or.inr (Or.inl rfl) | exact Or.inr (Or.inr rfl)) (by decide) (by decide)) (@pa_cons _ _ _ _ _ (@pvD _ 10 _ _ (by rfl) (by first | exact Or.inl rfl | exact Or.inr (Or.inl rfl) | exact Or.inr (Or.inr rfl)) (by decide) (by decide)) (@pa_nil _) (by rfl)) (by rfl)) (by rfl) (by decide +kernel) (by rfl) (by rfl)) (@pa_nil _) (by rfl)) (by rfl)) (by rfl)) (by rfl)) (by rfl))) (@pa_nil _) (by rfl)) (by rfl) (by rfl) (by rfl) (by rfl) (by rfl)) (by rfl))))) (by intro _; rfl)) (@pss_cons _ _ _ _ _ (@ps_set _ _ 14 _ _ _ _ nd rfl (by first | exact Or.inl rfl | exact Or.inr rfl) (@pe_op _ _ _ _ _ _ _ _ (@op_mod _) (@pe_op _ _ _ _ _ _ _ _ (@op_fdiv _) (@pvD _ 2 _ _ (by rfl) (by first | exact Or.inl rfl | exact Or.inr (Or.inl rfl) | exact Or.inr (Or.inr rfl)) (by decide) (by decide)) (@pe_int _ _ _ _)) (@pe_callB _ _ _ _ _ _ _ _ _ (@call_len_seq _) rfl m_len b_len (@pa_cons _ _ _ _ _ (@pvD _ 11 _ _ (by rfl) (by first | exact Or.inl rfl | exact Or.inr (Or.inl rfl) | exact Or.inr (Or.inr rfl)) (by decide) (by decide)) (@pa_nil _) (by rfl)) (by decide) (by decide) (by rfl) (by rfl))) (by rfl) (by first | exact .inl rfl | exact .inr rfl | assumption)) (@pss_one _ _ _ (@ps_ret _ _ _ _ (@pe_tup _ _ _ _ _ (@pa_cons _ _ _ _ _ (@pvD _ 5 _ _ (by rfl) (by first | exact Or.inl rfl | exact Or.inr (Or.inl rfl) | exact Or.inr (Or.inr rfl)) (by decide) (by decide)) (@pa_cons _ _ _ _ _ (@pe_callTy _ _ _ _ _ _ _ _ _ (@call_tuple_of _) rfl m_tuple b_tuple (@pa_cons _ _ _ _ _ (@pe_op _ _ _ _ _ _ _ _ (@op_cat _) (@pe_slice _ _ _ _ _ _ _ _ _ _ (@sl_list _) (@pvD _ 11 _ _ (by rfl) (by first | exact Or.inl rfl | exact Or.inr (Or.inl rfl) | exact Or.inr (Or.inr rfl)) (by decide) (by decide)) (@po_some _ _ _ (@pvD _ 14 _ _ (by rfl) (by first | exact Or.inl rfl | exact Or.inr (Or.inl rfl) | exact Or.inr (Or.inr rfl)) (by decide) (by decide))) (@po_none _)) (@pe_slice _ _ _ _ _ _ _ _ _ _ (@sl_list _) (@pvD _ 11 _ _ (by rfl) (by first | exact Or.inl rfl | exact Or.inr (Or.inl rfl) | exact Or.inr (Or.inr rfl)) (by decide) (by decide)) (@po_none _) (@po_some _ _ _ (@pvD _ 14 _ _ (by rfl) (by first | exact Or.inl rfl | exact Or.inr (Or.inl rfl) | exact Or.inr (Or.inr rfl)) (by decide) (by decide))))) (@pa_nil _) (by rfl)) (by decide) (by decide) (by rfl) (by rfl)) (@pa_nil _) (by rfl)) (by rfl))))))))))))))))), ?_⟩
  rw [show start ["deck", "names", "cell", "many", "drawn", "kinds", "first", "shapes", "k", "one", "shape", "rules", "kind", "price", "at"] [.ref d, .ref nl] = [some (.ref d), some (.ref nl), none, none, none, none, none, none, none, none, none, none, none, none, none] from rfl]
  clear hu hu0 nd hr
  push_cast [spDeeds, spNext, spShape]
  have sz := sizeLine_eq
  refine ⟨b, ns, n, hD, by omega, fun c H1 s1 d1 => ?_⟩
  have D1 := hD.next s1 d1
  have N1 := hN.sameB hD s1
  refine tMid_of (fun σ' H2 => ∃ many drawn : Nat, σ' = [some (.ref d), some (.ref nl), some (.int c), some (.int (many : Int)), some (.int (drawn : Int)), none, none, none, none, none, none, none, none, none, none] ∧ H1 = H2 ∧ 1 ≤ many ∧ many ≤ 8 ∧ 3 ≤ drawn ∧ drawn ≤ 36) ?_ ?_
  · push_cast [and_true]
    refine ⟨rfl, ite2 (fun e => ⟨(1 + c / 448 % 8).toNat, by omega, 36, by rfl, by omega, by omega, by decide, by decide⟩) fun e => ⟨(1 + c % 3).toNat, by omega, (3 + c / 7 % 8).toNat, by omega, by omega, by omega, by omega, by omega⟩⟩
  rintro _ _ ⟨many, drawn, rfl, rfl, m1, m2, r1, r2⟩
  push_cast [and_true]
  have ct : cutV (zs.map V.str) none (some (many : Int)) = (zs.take many).map V.str := by rw [cut_head _ many (by rw [List.length_map, hN.2.1]; omega), List.map_take]
  refine ⟨zs.map V.str, SqL.of N1.1, fun p1 hp1 => ?_⟩
  rw [ct]
  refine ⟨_, .inl ⟨SqL.of upd_same, fun kt hkt => ?_⟩⟩
  obtain ⟨kinds, hkd⟩ : ∃ kinds, kinds = zs.take many := ⟨_, rfl⟩
  rw [← hkd]
  have kl : kinds.length = many := by rw [hkd, List.length_take, hN.2.1]; omega
  have hk : Kinds kinds := fun z hz => hN.2.2.2 z (List.mem_of_mem_take (by rw [← hkd]; exact hz))
  have q2 := (same_new hp1 (.lst (kinds.map V.str))).trans (same_new (by rw [← hkd] at hkt; exact hkt) (.tup (kinds.map V.str)))
  rw [← hkd] at hkt
  have S2 : SameB d H (upd (upd H1 p1 (.lst (kinds.map V.str))) kt (.tup (kinds.map V.str))) := s1.trans (SameB.of q2)
  have d2 := q2 _ _ d1
  have k2 : upd (upd H1 p1 (.lst (kinds.map V.str))) kt (.tup (kinds.map V.str)) kt = some (.tup (kinds.map V.str)) := upd_same
  have N2 := N1.same q2
  generalize upd (upd H1 p1 (.lst (kinds.map V.str))) kt (.tup (kinds.map V.str)) = H2 at S2 d2 k2 N2 q2 ⊢
  obtain ⟨z0, hz0, hk0⟩ : ∃ z, atI (kinds.map V.str) 0 = some (.str z) ∧ z ∈ kinds := by
    cases kinds with
    | nil => simp at kl; omega
    | cons z r => exact ⟨z, atI_nat (j := 0) rfl, List.mem_cons_self⟩
  refine rIxT_ok k2 hz0 ?_
  refine ⟨by show (1 : Nat) ≤ sizeLine; decide, fun a1 ha1 => ?_⟩
  have sa1 := same_new ha1 (.tup [V.str (Str.ofString "any")])
  have ea1 : upd H2 a1 (.tup [V.str (Str.ofString "any")]) a1 = some (.tup [V.str (Str.ofString "any")]) := upd_same
  generalize upd H2 a1 (.tup [V.str (Str.ofString "any")]) = I1 at sa1 ea1 ⊢
  refine ⟨by show (2 : Nat) ≤ sizeLine; decide, fun b1 hb1 => ?_⟩
  have sb1 := same_new hb1 (.tup [V.str z0, V.ref a1])
  have eb1 : upd I1 b1 (.tup [V.str z0, V.ref a1]) b1 = some (.tup [V.str z0, V.ref a1]) := upd_same
  generalize upd I1 b1 (.tup [V.str z0, V.ref a1]) = I2 at sb1 eb1 ⊢
  refine ⟨by show (1 : Nat) ≤ sizeLine; decide, fun a2 ha2 => ?_⟩
  have sa2 := same_new ha2 (.tup [V.str (Str.ofString "var")])
  have ea2 : upd I2 a2 (.tup [V.str (Str.ofString "var")]) a2 = some (.tup [V.str (Str.ofString "var")]) := upd_same
  generalize upd I2 a2 (.tup [V.str (Str.ofString "var")]) = I3 at sa2 ea2 ⊢
  refine ⟨by show (2 : Nat) ≤ sizeLine; decide, fun b2 hb2 => ?_⟩
  have sb2 := same_new hb2 (.tup [V.str z0, V.ref a2])
  have eb2 : upd I3 b2 (.tup [V.str z0, V.ref a2]) b2 = some (.tup [V.str z0, V.ref a2]) := upd_same
  generalize upd I3 b2 (.tup [V.str z0, V.ref a2]) = I4 at sb2 eb2 ⊢
  refine ⟨by show (3 : Nat) ≤ sizeLine; decide, fun a3 ha3 => ?_⟩
  have sa3 := same_new ha3 (.tup [V.str (Str.ofString "add"), V.str z0, V.str z0])
  have ea3 : upd I4 a3 (.tup [V.str (Str.ofString "add"), V.str z0, V.str z0]) a3 = some (.tup [V.str (Str.ofString "add"), V.str z0, V.str z0]) := upd_same
  generalize upd I4 a3 (.tup [V.str (Str.ofString "add"), V.str z0, V.str z0]) = I5 at sa3 ea3 ⊢
  refine ⟨by show (2 : Nat) ≤ sizeLine; decide, fun b3 hb3 => ?_⟩
  have sb3 := same_new hb3 (.tup [V.str z0, V.ref a3])
  have eb3 : upd I5 b3 (.tup [V.str z0, V.ref a3]) b3 = some (.tup [V.str z0, V.ref a3]) := upd_same
  generalize upd I5 b3 (.tup [V.str z0, V.ref a3]) = I6 at sb3 eb3 ⊢
  refine ⟨by show (2 : Nat) ≤ sizeLine; decide, fun a4 ha4 => ?_⟩
  have sa4 := same_new ha4 (.tup [V.str (Str.ofString "neg"), V.str z0])
  have ea4 : upd I6 a4 (.tup [V.str (Str.ofString "neg"), V.str z0]) a4 = some (.tup [V.str (Str.ofString "neg"), V.str z0]) := upd_same
  generalize upd I6 a4 (.tup [V.str (Str.ofString "neg"), V.str z0]) = I7 at sa4 ea4 ⊢
  refine ⟨by show (2 : Nat) ≤ sizeLine; decide, fun b4 hb4 => ?_⟩
  have sb4 := same_new hb4 (.tup [V.str z0, V.ref a4])
  have eb4 : upd I7 b4 (.tup [V.str z0, V.ref a4]) b4 = some (.tup [V.str z0, V.ref a4]) := upd_same
  generalize upd I7 b4 (.tup [V.str z0, V.ref a4]) = I8 at sb4 eb4 ⊢
  refine ⟨by show (4 : Nat) ≤ sizeLine; decide, fun sl hsl => ?_⟩
  have ssl := same_new hsl (.lst [V.ref b1, V.ref b2, V.ref b3, V.ref b4])
  have esl : upd I8 sl (.lst [V.ref b1, V.ref b2, V.ref b3, V.ref b4]) sl = some (.lst [V.ref b1, V.ref b2, V.ref b3, V.ref b4]) := upd_same
  generalize upd I8 sl (.lst [V.ref b1, V.ref b2, V.ref b3, V.ref b4]) = I9 at ssl esl ⊢
  have u8 := sb4.trans ssl
  have u7 := sa4.trans u8
  have u6 := sb3.trans u7
  have u5 := sa3.trans u6
  have u4 := sb2.trans u5
  have u3 := sa2.trans u4
  have u2 := sb1.trans u3
  have u1 := sa1.trans u2
  have sh4 : ∀ k' : Nat, k' < 4 → ∃ (a s : Addr) (sh : List V), atI [V.ref b1, V.ref b2, V.ref b3, V.ref b4] (k' : Int) = some (.ref a) ∧ I9 a = some (.tup [.str z0, .ref s]) ∧ I9 s = some (.tup sh) ∧ ShOk kinds sh := fun k' hk' => by
    rcases k' with _ | _ | _ | _ | k'
    · exact ⟨b1, a1, _, atI_nat rfl, u3 _ _ eb1, u2 _ _ ea1, shOk_any kinds⟩
    · exact ⟨b2, a2, _, atI_nat rfl, u5 _ _ eb2, u4 _ _ ea2, shOk_var kinds⟩
    · exact ⟨b3, a3, _, atI_nat rfl, u7 _ _ eb3, u6 _ _ ea3, shOk_add hk hk0⟩
    · exact ⟨b4, a4, _, atI_nat rfl, ssl _ _ eb4, u8 _ _ ea4, shOk_neg hk hk0⟩
    · omega
  have S9 : SameB d H I9 := S2.trans (SameB.of u1)
  have d9 := u1 _ _ d2
  have k9 := u1 _ _ k2
  have N9 := N2.same u1
  clear u1 u2 u3 u4 u5 u6 u7 u8 sa1 sa2 sa3 sa4 sb1 sb2 sb3 sb4 ssl ea1 ea2 ea3 ea4 eb1 eb2 eb3 eb4 q2 hkt N2 d2 k2 S2
  intro D hD'
  refine lc_range (n := 4) (fun j ys => ∃ (sa : List Addr) (ps : List (Str × List V)), ys = sa.map V.ref ∧ ShsAt I9 sa kinds ps ∧ ps.length ≤ j) (by omega) hD' ⟨[], [], rfl, ShsAt.nil _ _, Nat.le_refl _⟩ (fun j ys H3 G' K' hj hP hl2 hS' hG hK' => ?_) fun ys H3 hP hl2 hS' hD2 => ?_
  · obtain ⟨sa, ps, rfl, hsh, hpl⟩ := hP
    obtain ⟨a, s, sh, g1, g2, g3, g4⟩ := sh4 j hj
    obtain ⟨y, hy, hym⟩ := atI_in [V.int 1, V.int 3, V.int 9, V.int 27] (0 + (j : Int)) (by omega) (by show 0 + (j : Int) < 4; omega)
    obtain ⟨y', rfl, hy0, hy1⟩ : ∃ y' : Int, y = .int y' ∧ 0 < y' ∧ y' < 1073741824 := by
      simp only [List.mem_cons, List.not_mem_nil, or_false] at hym
      rcases hym with rfl | rfl | rfl | rfl <;> exact ⟨_, rfl, by decide, by decide⟩
    push_cast [CDiv]
    refine ⟨by show (4 : Nat) ≤ sizeLine; decide, fun p4 hp4 => rIxL_ok upd_same hy ⟨y', rfl, hy0, hy1, rfl, ite2 (fun e => ?_) fun e => hG _ (same_new hp4 _) ⟨sa, ps, rfl, hsh, by omega⟩⟩⟩
    refine rIxL_ok (same_new hp4 _ _ _ (hS' _ _ esl)) (by rw [show (0 + (j : Int)) = ((j : Nat) : Int) by omega]; exact g1) (hK' _ _ (same_new hp4 _) ⟨sa ++ [a], ps ++ [(z0, sh)], by rw [List.map_append]; rfl, hsh.snoc g4 g2 g3, by rw [List.length_append, List.length_singleton]; omega⟩)
  · obtain ⟨sa, ps, rfl, hsh, hpl⟩ := hP
    have S10 := S9.trans (SameB.of hS')
    have d10 := hS' _ _ d9
    have k10 := hS' _ _ k9
    have N10 := N9.same hS'
    have hsh10 := hsh.same hS'
    have fD := S9.free d9 hD'
    have nDd : D ≠ d := (ne_of_none d9 hD').symm
    have nt : ∀ {a : Addr} {xs : List V} {H' : Hp} {n' : Nat}, H' d = some (.lst [.ref b, .int (n' : Int)]) → H' a = some (.tup xs) → a ≠ d := fun h1 h2 => ne_of h2 h1 (by intro e; cases e)
    refine ⟨by omega, by omega, ?_⟩
    rw [show ((drawn : Nat) : Int).toNat = drawn by omega]
    refine forW_range (lo := 0) (fun j σ H' => ∃ (sa : List Addr) (ps : List (Str × List V)) (n' : Nat) (v8 v9 v10 : Option V), σ = [some (.ref d), some (.ref nl), some (.int c), some (.int (many : Int)), some (.int (drawn : Int)), some (.ref kt), some (.str z0), some (.ref D), v8, v9, v10, none, none, none, none] ∧ SameB d H H' ∧ H' d = some (.lst [.ref b, .int (n' : Int)]) ∧ n' ≤ n + 1 + 13 * j ∧ H' D = some (.lst (sa.map V.ref)) ∧ H' kt = some (.tup (kinds.map V.str)) ∧ NamesAt H' nl zs ∧ ShsAt H' sa kinds ps ∧ ps.length ≤ 4 + j ∧ j ≤ ps.length) ⟨sa, ps, n + 1, none, none, none, rfl, S10, d10, by omega, hD2, k10, N10, hsh10, by omega, Nat.zero_le _⟩ ?_ ?_
    · rintro j σ H5 hj ⟨sa, ps, n', v8, v9, v10, rfl, s5, d5, hn5, D5, k5, N5, sh5, pl5, pj5⟩
      push_cast [spNext, spShape]
      refine ⟨b, ns, n', hD.next s5 d5, by omega, fun one H6 s6 d6 => ?_⟩
      have S6 := s5.trans s6
      have D6 := s6 D _ nDd D5
      have k6 := s6 kt _ (nt d5 k5) k5
      have N6 := N5.sameB (hD.next s5 d5) s6
      have sh6 := sh5.sameB (hD.next s5 d5) s6
      refine ⟨b, ns, kinds, n' + 1, hD.next S6 d6, k6, hk, by omega, by omega, by omega, fun t n2 H7 sh s7 d7 hn7 ht h7 ok7 => ?_⟩
      have Dk6 := hD.next S6 d6
      have S7 := S6.trans s7
      have D7 := s7 D _ nDd D6
      have k7 := s7 kt _ (nt d6 k6) k6
      have N7 := N6.sameB Dk6 s7
      have sh7 := sh6.sameB Dk6 s7
      have kat : ∀ i : Int, ∃ z, atI (kinds.map V.str) (i % (((kinds.map V.str).length : Nat) : Int)) = some (.str z) ∧ z ∈ kinds := fun i => by
        obtain ⟨y, hy, hym⟩ := atI_in (kinds.map V.str) (i % (((kinds.map V.str).length : Nat) : Int)) (Int.emod_nonneg _ (by rw [List.length_map]; omega)) (Int.emod_lt_of_pos _ (by rw [List.length_map]; omega))
        obtain ⟨z, hz, rfl⟩ := List.mem_map.mp hym
        exact ⟨z, hy, hz⟩
      refine tMid_of (fun σ' H8 => ∃ (t' : Addr) (sh' : List V), σ' = [some (.ref d), some (.ref nl), some (.int c), some (.int (many : Int)), some (.int (drawn : Int)), some (.ref kt), some (.str z0), some (.ref D), some (.int (0 + (j : Int))), some (.int one), some (.ref t'), none, none, none, none] ∧ Same H7 H8 ∧ H8 t' = some (.tup sh') ∧ ShOk kinds sh') ?_ ?_
      · push_cast [CDiv]
        refine ⟨rfl, ite2 (fun e => ⟨_, .inr (SqT.of k7), by rw [List.length_map]; omega, ?_⟩) fun e => ⟨Same.refl _, _, h7, ok7⟩⟩
        obtain ⟨z, hz, hzk⟩ := kat (one / 5)
        exact rIxT_ok k7 hz ⟨by show (1 : Nat) ≤ sizeLine; decide, fun t' ht' => ⟨same_new ht' _, _, upd_same, shOk_hole hk hzk⟩⟩
      rintro _ H8 ⟨t', sh', rfl, s8, h8, ok8⟩
      push_cast [CDiv]
      obtain ⟨z, hz, hzk⟩ := kat (one / 15)
      refine ⟨tyV_list (s8 _ _ D7), _, .inr (SqT.of (s8 _ _ k7)), by rw [List.length_map]; omega, rIxT_ok (s8 _ _ k7) hz ⟨by show (2 : Nat) ≤ sizeLine; decide, fun pr hpr => ?_⟩⟩
      have s9 := s8.trans (same_new hpr (.tup [V.str z, V.ref t']))
      have S9' := S7.trans (SameB.of s9)
      have e9 : upd H8 pr (.tup [V.str z, V.ref t']) pr = some (.tup [V.str z, V.ref t']) := upd_same
      have h9 := same_new hpr (.tup [V.str z, V.ref t']) _ _ h8
      generalize upd H8 pr (.tup [V.str z, V.ref t']) = H9 at s9 S9' e9 h9 ⊢
      have sal : sa.length = ps.length := sh5.1
      have uD : Same H9 (upd H9 D (.lst (sa.map V.ref ++ [V.ref pr]))) ∨ True := .inr trivial
      have tD : ∀ {a : Addr} {xs : List V}, H9 a = some (.tup xs) → upd H9 D (.lst (sa.map V.ref ++ [V.ref pr])) a = some (.tup xs) := fun h => by rw [upd_ne (ne_of h (s9 _ _ D7) (by intro e; cases e))]; exact h
      have sh9 := (sh7.same s9).snoc ok8 e9 h9
      refine (append_ok (K := K) (s9 _ _ D7) (by rw [List.length_map]; omega) ⟨S9'.upd fD _, sa ++ [pr], ps ++ [(z, sh')], n2, by rw [upd_ne nDd.symm]; exact s9 _ _ d7, by omega, by rw [upd_same, List.map_append]; rfl, tD (s9 _ _ k7), ⟨?_, N7.2⟩, ⟨sh9.1, fun i k' s' hi => ?_⟩, by rw [List.length_append, List.length_singleton]; omega, by rw [List.length_append, List.length_singleton]; omega⟩).2
      · rw [upd_ne (ne_of_none hN.1 fD)]
        exact s9 _ _ N7.1
      · obtain ⟨o1, a, t, x1, x2, x3⟩ := sh9.2 i k' s' hi
        exact ⟨o1, a, t, x1, tD x2, tD x3⟩
    · rintro σ H5 ⟨sa, ps, n', v8, v9, v10, rfl, s5, d5, hn5, D5, k5, N5, sh5, pl5, pj5⟩
      push_cast [and_true]
      refine ⟨Nat.zero_le _, fun rl hrl => ⟨⟨_, SqL.of (same_new hrl _ _ _ D5)⟩, ?_⟩⟩
      have frl := s5.free d5 hrl
      have nrd : rl ≠ d := (ne_of_none d5 hrl).symm
      have S6 := s5.trans (SameB.of (same_new hrl (.lst [])))
      have d6 := same_new hrl (.lst []) _ _ d5
      have D6 := same_new hrl (.lst []) _ _ D5
      have k6 := same_new hrl (.lst []) _ _ k5
      have N6 := N5.same (same_new hrl (.lst []))
      have sh6 := sh5.same (same_new hrl (.lst []))
      have r6 : upd H5 rl (.lst []) rl = some (.lst []) := upd_same
      have nrD : rl ≠ D := (ne_of_none D5 hrl).symm
      generalize upd H5 rl (.lst []) = H6 at S6 d6 D6 k6 N6 sh6 r6 ⊢
      have sal : sa.length = ps.length := sh5.1
      refine forW_list (xs := sa.map V.ref) (fun i σ H' => ∃ (ra : List Addr) (rs : List Rl) (m : Nat) (w8 w9 w10 w12 w13 : Option V), σ = [some (.ref d), some (.ref nl), some (.int c), some (.int (many : Int)), some (.int (drawn : Int)), some (.ref kt), some (.str z0), some (.ref D), w8, w9, w10, some (.ref rl), w12, w13, none] ∧ SameB d H H' ∧ H' d = some (.lst [.ref b, .int (m : Int)]) ∧ m ≤ n' + i ∧ H' D = some (.lst (sa.map V.ref)) ∧ H' kt = some (.tup (kinds.map V.str)) ∧ NamesAt H' nl zs ∧ ShsAt H' sa kinds ps ∧ H' rl = some (.lst (ra.map V.ref)) ∧ RulesAt H' ra rs ∧ rs.length = i ∧ rs.map (·.name) = (zs.drop 8).take i ∧ ∀ r ∈ rs, ShOk kinds r.shape)
        ⟨[], [], n', v8, v9, v10, none, none, rfl, S6, d6, by omega, D6, k6, N6, sh6, r6, ⟨rfl, fun i r h => by simp at h⟩, rfl, rfl, fun _ h => nomatch h⟩ (fun i σ H' _ h => by obtain ⟨_, _, _, _, _, _, _, _, _, _, _, _, hd, _⟩ := h; exact SqL.of hd) ?_ ?_
      · rintro i y σ H7 hy ⟨ra, rs, m, w8, w9, w10, w12, w13, rfl, s7, d7, hm7, D7, k7, N7, sh7, r7, R7, rl7, nm7, so7⟩
        rw [List.getElem?_map] at hy
        obtain ⟨ai, hai, rfl⟩ := Option.map_eq_some_iff.mp hy
        have hil : i < ps.length := by rw [← sal]; exact (List.getElem?_eq_some_iff.mp hai).1
        obtain ⟨⟨ki, shi⟩, hpi⟩ : ∃ t, ps[i]? = some t := ⟨_, List.getElem?_eq_getElem hil⟩
        obtain ⟨oki, a', si, x1, x2, x3⟩ := sh7.2 i ki shi hpi
        obtain rfl : a' = ai := Option.some.inj (x1.symm.trans hai)
        push_cast [gTup, gCons, gNil, spNext, spDeeds, CDiv]
        have hD7 := hD.next s7 d7
        refine ⟨_, SqT.of x2, rfl, _, _, rfl, _, _, rfl, rfl, b, ns, m, hD7, by omega, fun one H8 s8 d8 => ⟨by show (3 : Nat) ≤ sizeLine; decide, fun p hp => ?_⟩⟩
        obtain ⟨y, hy, hym⟩ := atI_in [V.int (1 + one / 3 % 4), V.int (1 + one / 3 % 30), V.int (1 + one / 3 % 999999)] (one % 3) (Int.emod_nonneg _ (by decide)) (Int.emod_lt_of_pos _ (by decide))
        obtain ⟨y', rfl⟩ : ∃ y' : Int, y = .int y' := by
          simp only [List.mem_cons, List.not_mem_nil, or_false] at hym
          rcases hym with rfl | rfl | rfl <;> exact ⟨_, rfl⟩
        refine rIxL_ok upd_same hy ?_
        have S8 := s7.trans (s8.trans (SameB.of (same_new hp (.lst [V.int (1 + one / 3 % 4), V.int (1 + one / 3 % 30), V.int (1 + one / 3 % 999999)]))))
        have s8' := s8.trans (SameB.of (d := d) (same_new hp (.lst [V.int (1 + one / 3 % 4), V.int (1 + one / 3 % 30), V.int (1 + one / 3 % 999999)])))
        have d8' := same_new hp (.lst [V.int (1 + one / 3 % 4), V.int (1 + one / 3 % 30), V.int (1 + one / 3 % 999999)]) _ _ d8
        generalize upd H8 p (.lst [V.int (1 + one / 3 % 4), V.int (1 + one / 3 % 30), V.int (1 + one / 3 % 999999)]) = H9 at S8 s8' d8' ⊢
        have r9 := s8' rl _ nrd r7
        have D9 := s8' D _ nDd D7
        have k9' := sameB_tup hD7 s8' k7
        have N9' := N7.sameB hD7 s8'
        have sh9 := sh7.sameB hD7 s8'
        have R9 := R7.keep (sameB_tup hD7 s8')
        have x39 := sameB_tup hD7 s8' x3
        have ral : ra.length = i := by rw [R7.1, rl7]
        have hzl := hN.2.1
        have hz8 : zs[8 + i]? = some zs[8 + i] := List.getElem?_eq_getElem (by omega)
        refine ⟨tyV_list r9, _, .inl (SqL.of r9), rIxL_ok (v := .str zs[8 + i]) N9'.1 ?_ ⟨si, rfl, kinds, k9', shi, x39, hk, oki, fun t ds H10 s10 h10 => ⟨by show (5 : Nat) ≤ sizeLine; decide, fun pr hpr => ?_⟩⟩⟩
        · rw [List.length_map, ral, show (8 : Int) + (i : Int) = ((8 + i : Nat) : Int) by omega]
          exact atI_nat (by rw [List.getElem?_map, hz8]; rfl)
        have e11 : upd H10 pr (.tup [V.str zs[8 + i], V.str ki, V.int y', V.ref si, V.ref t]) pr = some (.tup [V.str zs[8 + i], V.str ki, V.int y', V.ref si, V.ref t]) := upd_same
        have q11 := same_new hpr (.tup [V.str zs[8 + i], V.str ki, V.int y', V.ref si, V.ref t])
        have s11 := s10.trans q11
        have h11 := q11 _ _ h10
        clear q11
        generalize upd H10 pr (.tup [V.str zs[8 + i], V.str ki, V.int y', V.ref si, V.ref t]) = H11 at e11 s11 h11 ⊢
        have S11 := S8.trans (SameB.of s11)
        have r11 := s11 _ _ r9
        have R11 := (R9.same s11).snoc (r := ⟨zs[8 + i], ki, y', shi⟩) ⟨si, t, ds, e11, s11 _ _ x39, h11⟩
        have tD : ∀ {a : Addr} {xs : List V}, H11 a = some (.tup xs) → upd H11 rl (.lst (ra.map V.ref ++ [V.ref pr])) a = some (.tup xs) := fun h => by rw [upd_ne (ne_of h r11 (by intro e; cases e))]; exact h
        refine (append_ok (K := K) r11 (by rw [List.length_map]; omega) ⟨S11.upd frl _, ra ++ [pr], rs ++ [⟨zs[8 + i], ki, y', shi⟩], m + 1, by rw [upd_ne nrd.symm]; exact s11 _ _ d8', by omega, by rw [upd_ne nrD.symm]; exact s11 _ _ D9, tD (s11 _ _ k9'), ⟨?_, hN.2⟩, (sh9.same s11).keep tD, by rw [upd_same, List.map_append]; rfl, R11.keep tD, by rw [List.length_append, List.length_singleton, rl7], names_next nm7 hz8, fun r' hr' => ?_⟩).2
        · rw [upd_ne (ne_of_none hN.1 frl)]
          exact s11 _ _ N9'.1
        · rcases List.mem_append.mp hr' with g | g
          · exact so7 r' g
          · rw [List.mem_singleton.mp g]; exact oki
      · rintro σ H7 ⟨ra, rs, m, w8, w9, w10, w12, w13, rfl, s7, d7, hm7, D7, k7, N7, sh7, r7, R7, rl7, nm7, so7⟩
        push_cast [and_true]
        have ral : ra.length = rs.length := R7.1
        rw [List.length_map] at hm7 rl7 nm7
        rw [← rl7] at nm7
        have rsl : rs.length = ps.length := by rw [rl7, sal]
        obtain ⟨at', hat, hlt⟩ : ∃ a : Nat, c / 11 % (((ra.map V.ref).length : Nat) : Int) = (a : Int) ∧ a < ra.length := ⟨(c / 11 % (((ra.map V.ref).length : Nat) : Int)).toNat, by
          rw [List.length_map]
          have h1 := Int.emod_nonneg (c / 11) (show ((ra.length : Nat) : Int) ≠ 0 by omega)
          omega, by
          rw [List.length_map]
          have h1 := Int.emod_nonneg (c / 11) (show ((ra.length : Nat) : Int) ≠ 0 by omega)
          have h2 := Int.emod_lt_of_pos (c / 11) (show (0 : Int) < ((ra.length : Nat) : Int) by omega)
          omega⟩
        refine ⟨_, .inl (SqL.of r7), by rw [List.length_map]; omega, _, SqL.of r7, fun p hp => ?_⟩
        rw [hat]
        have c1 : cutV (ra.map V.ref) (some (at' : Int)) none = (ra.drop at').map V.ref := by
          have := cut_tail (ra.map V.ref) at' 0 (by rw [List.length_map]; omega)
          rw [show ((at' : Int) + ((0 : Nat) : Int)) = (at' : Int) by omega, Nat.add_zero] at this
          rw [this, List.map_drop]
        have c2 : cutV (ra.map V.ref) none (some (at' : Int)) = (ra.take at').map V.ref := by rw [cut_head _ _ (by rw [List.length_map]; omega), List.map_take]
        rw [c1] at *
        refine ⟨_, SqL.of (same_new hp _ _ _ r7), fun p2 hp2 => ?_⟩
        rw [c2]
        refine rCat_ok (same_new hp2 _ _ _ upd_same) upd_same (by rw [List.length_map, List.length_map, List.length_drop, List.length_take]; omega) fun p3 hp3 => ⟨p3, rfl, _, .inl ⟨SqL.of upd_same, fun t ht => ⟨by show (2 : Nat) ≤ sizeLine; decide, fun bt hbt => ?_⟩⟩⟩
        have s8 := (same_new hp (.lst ((ra.drop at').map V.ref))).trans ((same_new hp2 (.lst ((ra.take at').map V.ref))).trans ((same_new hp3 (.lst ((ra.drop at').map V.ref ++ (ra.take at').map V.ref))).trans ((same_new ht (.tup ((ra.drop at').map V.ref ++ (ra.take at').map V.ref))).trans (same_new hbt (.tup [V.ref kt, V.ref t])))))
        refine q bt m _ kinds (rs.drop at' ++ rs.take at') (s7.trans (SameB.of s8)) (s8 _ _ d7) (by omega) ⟨kt, t, ra.drop at' ++ ra.take at', upd_same, s8 _ _ k7, ?_, (R7.rot at').same s8⟩ (bk_rot hk hN.2.2.1 nm7 so7 (by omega) at') (by rw [List.length_append, List.length_drop, List.length_take]; omega)
        rw [List.map_append]
        exact same_new hbt _ _ _ upd_same
abbrev sNames : Stmt := top 13
theorem scNames : FnScope ["deck", "own", "letters", "cell", "more", "tail", "names", "k", "sign", "name"] ["deck"] (defScope sNames) := ⟨rfl, rfl, rfl, by decide +kernel, rfl, by decide +kernel, by decide +kernel⟩
theorem hasNames (G : Gs w K mg) (h_law_next : Has P w K mg base k "_law_next" ["deck"] spNext) (D : Def K mg "_law_names" sNames ["deck"]) : Has P w K mg base (k + 1) "_law_names" ["deck"] spNamesD := by
  refine D.has scNames (fun vs H Q E h => ?_) (fun f cdv A outer s H vs Q E hr h => ?_)
  · obtain ⟨_, _, _, _, rfl, _, _, _⟩ := h
    rfl
  have nd := scNames.nd
  have hu := hu_of hr
  have hu0 := Nat.lt_of_succ_lt hu
  obtain ⟨d, b, ns, n, rfl, hD, hn, q⟩ := h
  have m_range := G.m_range
  refine ⟨_, (@pss_cons _ _ _ _ _ (@ps_set _ _ 1 _ _ _ _ nd rfl (by first | exact Or.inl rfl | exact Or.inr rfl) (@pe_lst _ _ _ _ (@pa_const _ _ _ (@CsOk.str _ _ _ _ _ (@CsOk.str _ _ _ _ _ (@CsOk.str _ _ _ _ _ (@CsOk.str _ _ _ _ _ (@CsOk.str _ _ _ _ _ (@CsOk.str _ _ _ _ _ (@CsOk.str _ _ _ _ _ (@CsOk.str _ _ _ _ _ (@CsOk.str _ _ _ _ _ (@CsOk.nil)))))))))))) (by rfl) (by first | exact .inl rfl | exact .inr rfl | assumption)) (@pss_cons _ _ _ _ _ (@ps_set _ _ 2 _ _ _ _ nd rfl (by first | exact Or.inl rfl | exact Or.inr rfl) (@pe_str _ _ _ _) (by rfl) (by first | exact .inl rfl | exact .inr rfl | assumption)) (@pss_cons _ _ _ _ _ (@ps_set _ _ 3 _ _ _ _ nd rfl (by first | exact Or.inl rfl | exact Or.inr rfl) (@pe_has _ _ _ _ _ _ _ _ _ _ h_law_next hr (@pa_cons _ _ _ _ _ (@pvD _ 0 _ _ (by rfl) (by first | exact Or.inl rfl | exact Or.inr (Or.inl rfl) | exact Or.inr (Or.inr rfl)) (by decide) (by decide)) (@pa_nil _) (by rfl)) (by rfl) (by decide +kernel) (by rfl) (by rfl)) (by rfl) (by first | exact .inl rfl | exact .inr rfl | assumption)) (@pss_cons _ _ _ _ _ (@ps_set _ _ 4 _ _ _ _ nd rfl (by first | exact Or.inl rfl | exact Or.inr rfl) (@pe_op _ _ _ _ _ _ _ _ (@op_fdiv _) (@pvD _ 3 _ _ (by rfl) (by first | exact Or.inl rfl | exact Or.inr (Or.inl rfl) | exact Or.inr (Or.inr rfl)) (by decide) (by decide)) (@pe_int _ _ _ _)) (by rfl) (by first | exact .inl rfl | exact .inr rfl | assumption)) (@pss_cons _ _ _ _ _ (@ps_set _ _ 5 _ _ _ _ nd rfl (by first | exact Or.inl rfl | exact Or.inr rfl) (@pe_op _ _ _ _ _ _ _ _ (@op_mul_str _) (@pe_ix _ _ _ _ _ _ _ (@ix_str _) (@pvD _ 2 _ _ (by rfl) (by first | exact Or.inl rfl | exact Or.inr (Or.inl rfl) | exact Or.inr (Or.inr rfl)) (by decide) (by decide)) (@pe_op _ _ _ _ _ _ _ _ (@op_mod _) (@pe_op _ _ _ _ _ _ _ _ (@op_fdiv _) (@pvD _ 4 _ _ (by rfl) (by first | exact Or.inl rfl | exact Or.inr (Or.inl rfl) | exact Or.inr (Or.inr rfl)) (by decide) (by decide)) (@pe_int _ _ _ _)) (@pe_int _ _ _ _)) (fun _ _ => rfl)) (@pe_op _ _ _ _ _ _ _ _ (@op_mod _) (@pe_op _ _ _ _ _ _ _ _ (@op_fdiv _) (@pvD _ 4 _ _ (by rfl) (by first | exact Or.inl rfl | exact Or.inr (Or.inl rfl) | exact Or.inr (Or.inr rfl)) (by decide) (by decide)) (@pe_int _ _ _ _)) (@pe_int _ _ _ _))) (by rfl) (by first | exact .inl rfl | exact .inr rfl | assumption)) (@pss_cons _ _ _ _ _ (@ps_set _ _ 6 _ _ _ _ nd rfl (by first | exact Or.inl rfl | exact Or.inr rfl) (@pe_lst _ _ _ _ (@pa_nil _)) (by rfl) (by first | exact .inl rfl | exact .inr rfl | assumption)) (@pss_cons _ _ _ _ _ (@ps_for _ _ _ _ _ _ _ _ PassesOwn.never rfl (@pi_range1 _ _ _ _ _ _ rfl m_range (@pa_cons _ _ _ _ _ (@pe_int _ _ _ _) (@pa_nil _) (by rfl)) (by rfl)) (@pg_name _ _ 7 _ nd rfl (by first | exact Or.inl rfl | exact Or.inr rfl) (by first | exact .inl rfl | exact .inr rfl | assumption)) (@pss_cons _ _ _ _ _ (@ps_set _ _ 8 _ _ _ _ nd rfl (by first | exact Or.inl rfl | exact Or.inr rfl) (@pe_ix _ _ _ _ _ _ _ (@ix_str _) (@pvD _ 2 _ _ (by rfl) (by first | exact Or.inl rfl | exact Or.inr (Or.inl rfl) | exact Or.inr (Or.inr rfl)) (by decide) (by decide)) (@pe_op _ _ _ _ _ _ _ _ (@op_mod _) (@pe_op _ _ _ _ _ _ _ _ (@op_add _) (@pvD _ 4 _ _ (by rfl) (by first | exact Or.inl rfl | exact Or.inr (Or.inl rfl) | exact Or.inr (Or.inr rfl)) (by decide) (by decide)) (@pvD _ 7 _ _ (by rfl) (by first | exact Or.inl rfl | exact Or.inr (Or.inl rfl) | exact Or.inr (Or.inr rfl)) (by decide) (by decide))) (@pe_int _ _ _ _)) (fun _ _ => rfl)) (by rfl) (by first | exact .inl rfl | exact .inr rfl | assumption)) (@pss_cons _ _ _ _ _ (@ps_set _ _ 9 _ _ _ _ nd rfl (by first | exact Or.inl rfl | exact Or.inr rfl) (@pe_op _ _ _ _ _ _ _ _ (@op_add_str _) (@pe_op _ _ _ _ _ _ _ _ (@op_add_str _) (@pvD _ 8 _ _ (by rfl) (by first | exact Or.inl rfl | exact Or.inr (Or.inl rfl) | exact Or.inr (Or.inr rfl)) (by decide) (by decide)) (@pe_ix _ _ _ _ _ _ _ (@ix_str _) (@pvD _ 2 _ _ (by rfl) (by first | exact Or.inl rfl | exact Or.inr (Or.inl rfl) | exact Or.inr (Or.inr rfl)) (by decide) (by decide)) (@pe_op _ _ _ _ _ _ _ _ (@op_mod _) (@pe_op _ _ _ _ _ _ _ _ (@op_add _) (@pe_op _ _ _ _ _ _ _ _ (@op_fdiv _) (@pvD _ 4 _ _ (by rfl) (by first | exact Or.inl rfl | exact Or.inr (Or.inl rfl) | exact Or.inr (Or.inr rfl)) (by decide) (by decide)) (@pe_int _ _ _ _)) (@pe_op _ _ _ _ _ _ _ _ (@op_fdiv _) (@pvD _ 7 _ _ (by rfl) (by first | exact Or.inl rfl | exact Or.inr (Or.inl rfl) | exact Or.inr (Or.inr rfl)) (by decide) (by decide)) (@pe_int _ _ _ _))) (@pe_int _ _ _ _)) (fun _ _ => rfl))) (@pvD _ 5 _ _ (by rfl) (by first | exact Or.inl rfl | exact Or.inr (Or.inl rfl) | exact Or.inr (Or.inr rfl)) (by decide) (by decide))) (by rfl) (by first | exact .inl rfl | exact .inr rfl | assumption)) (@pss_mid _ _ _ _ _ (@ps_if _ _ _ _ _ _ _ _ (@pt_cmpR _ _ _ _ _ _ _ _ (@op_eq _) (@pe_op _ _ _ _ _ _ _ _ (@op_mod _) (@pvD _ 3 _ _ (by rfl) (by first | exact Or.inl rfl | exact Or.inr (Or.inl rfl) | exact Or.inr (Or.inr rfl)) (by decide) (by decide)) (@pe_int _ _ _ _)) (@pe_int _ _ _ _) (@nomark _ _ (by decide) (by decide))) (@pss_one _ _ _ (@ps_set _ _ 9 _ _ _ _ nd rfl (by first | exact Or.inl rfl | exact Or.inr rfl) (@pe_op _ _ _ _ _ _ _ _ (@op_add_str _) (@pe_ix _ _ _ _ _ _ _ (@ix_list _) (@pvD _ 1 _ _ (by rfl) (by first | exact Or.inl rfl | exact Or.inr (Or.inl rfl) | exact Or.inr (Or.inr rfl)) (by decide) (by decide)) (@pe_op _ _ _ _ _ _ _ _ (@op_mod _) (@pe_op _ _ _ _ _ _ _ _ (@op_add _) (@pvD _ 7 _ _ (by rfl) (by first | exact Or.inl rfl | exact Or.inr (Or.inl rfl) | exact Or.inr (Or.inr rfl)) (by decide) (by decide)) (@pvD _ 4 _ _ (by rfl) (by first | exact Or.inl rfl | exact Or.inr (Or.inl rfl) | exact Or.inr (Or.inr rfl)) (by decide) (by decide))) (@pe_int _ _ _ _)) (fun _ _ => rfl)) (@pe_ix _ _ _ _ _ _ _ (@ix_str _) (@pvD _ 2 _ _ (by rfl) (by first | exact Or.inl rfl | exact Or.inr (Or.inl rfl) | exact Or.inr (Or.inr rfl)) (by decide) (by decide)) (@pe_op _ _ _ _ _ _ _ _ (@op_mod _) (@pe_op _ _ _ _ _ _ _ _ (@op_add _) (@pe_op _ _ _ _ _ _ _ _ (@op_fdiv _) (@pvD _ 4 _ _ (by rfl) (by first | exact Or.inl rfl | exact Or.inr (Or.inl rfl) | exact Or.inr (Or.inr rfl)) (by decide) (by decide)) (@pe_int _ _ _ _)) (@pe_op _ _ _ _ _ _ _ _ (@op_fdiv _) (@pvD _ 7 _ _ (by rfl) (by first | exact Or.inl rfl | exact Or.inr (Or.inl rfl) | exact Or.inr (Or.inr rfl)) (by decide) (by decide)) (@pe_int _ _ _ _))) (@pe_int _ _ _ _)) (fun _ _ => rfl))) (by rfl) (by first | exact .inl rfl | exact .inr rfl | assumption))) (@pss_nil _)) (@pss_mid _ _ _ _ _ (@ps_if _ _ _ _ _ _ _ _ (@pt_cmpR _ _ _ _ _ _ _ _ (@op_eq _) (@pe_op _ _ _ _ _ _ _ _ (@op_mod _) (@pvD _ 3 _ _ (by rfl) (by first | exact Or.inl rfl | exact Or.inr (Or.inl rfl) | exact Or.inr (Or.inr rfl)) (by decide) (by decide)) (@pe_int _ _ _ _)) (@pe_int _ _ _ _) (@nomark _ _ (by decide) (by decide))) (@pss_cons _ _ _ _ _ (@ps_set _ _ 9 _ _ _ _ nd rfl (by first | exact Or.inl rfl | exact Or.inr rfl) (@pe_op _ _ _ _ _ _ _ _ (@op_mul_str _) (@pe_ix _ _ _ _ _ _ _ (@ix_str _) (@pvD _ 2 _ _ (by rfl) (by first | exact Or.inl rfl | exact Or.inr (Or.inl rfl) | exact Or.inr (Or.inr rfl)) (by decide) (by decide)) (@pe_op _ _ _ _ _ _ _ _ (@op_mod _) (@pvD _ 4 _ _ (by rfl) (by first | exact Or.inl rfl | exact Or.inr (Or.inl rfl) | exact Or.inr (Or.inr rfl)) (by decide) (by decide)) (@pe_int _ _ _ _)) (fun _ _ => rfl)) (@pe_op _ _ _ _ _ _ _ _ (@op_add _) (@pe_int _ _ _ _) (@pe_op _ _ _ _ _ _ _ _ (@op_mod _) (@pvD _ 7 _ _ (by rfl) (by first | exact Or.inl rfl | exact Or.inr (Or.inl rfl) | exact Or.inr (Or.inr rfl)) (by decide) (by decide)) (@pe_int _ _ _ _)))) (by rfl) (by first | exact .inl rfl | exact .inr rfl | assumption)) (@pss_cons _ _ _ _ _ (@ps_set _ _ 9 _ _ _ _ nd rfl (by first | exact Or.inl rfl | exact Or.inr rfl) (@pe_op _ _ _ _ _ _ _ _ (@op_add_str _) (@pvD _ 9 _ _ (by rfl) (by first | exact Or.inl rfl | exact Or.inr (Or.inl rfl) | exact Or.inr (Or.inr rfl)) (by decide) (by decide)) (@pe_op _ _ _ _ _ _ _ _ (@op_mul_str _) (@pe_ix _ _ _ _ _ _ _ (@ix_str _) (@pvD _ 2 _ _ (by rfl) (by first | exact Or.inl rfl | exact Or.inr (Or.inl rfl) | exact Or.inr (Or.inr rfl)) (by decide) (by decide)) (@pe_op _ _ _ _ _ _ _ _ (@op_mod _) (@pe_op _ _ _ _ _ _ _ _ (@op_add _) (@pvD _ 4 _ _ (by rfl) (by first | exact Or.inl rfl | exact Or.inr (Or.inl rfl) | exact Or.inr (Or.inr rfl)) (by decide) (by decide)) (@pe_int _ _ _ _)) (@pe_int _ _ _ _)) (fun _ _ => rfl)) (@pe_op _ _ _ _ _ _ _ _ (@op_mod _) (@pe_op _ _ _ _ _ _ _ _ (@op_fdiv _) (@pvD _ 7 _ _ (by rfl) (by first | exact Or.inl rfl | exact Or.inr (Or.inl rfl) | exact Or.inr (Or.inr rfl)) (by decide) (by decide)) (@pe_int _ _ _ _)) (@pe_int _ _ _ _)))) (by rfl) (by first | exact .inl rfl | exact .inr rfl | assumption)) (@pss_one _ _ _ (@ps_set _ _ 9 _ _ _ _ nd rfl (by first | exact Or.inl rfl | exact Or.inr rfl) (@pe_op _ _ _ _ _ _ _ _ (@op_add_str _) (@pvD _ 9 _ _ (by rfl) (by first | exact Or.inl rfl | exact Or.inr (Or.inl rfl) | exact Or.inr (Or.inr rfl)) (by decide) (by decide)) (@pe_ix _ _ _ _ _ _ _ (@ix_str _) (@pvD _ 2 _ _ (by rfl) (by first | exact Or.inl rfl | exact Or.inr (Or.inl rfl) | exact Or.inr (Or.inr rfl)) (by decide) (by decide)) (@pe_op _ _ _ _ _ _ _ _ (@op_mod _) (@pe_op _ _ _ _ _ _ _ _ (@op_add _) (@pe_op _ _ _ _ _ _ _ _ (@op_add _) (@pvD _ 4 _ _ (by rfl) (by first | exact Or.inl rfl | exact Or.inr (Or.inl rfl) | exact Or.inr (Or.inr rfl)) (by decide) (by decide)) (@pe_int _ _ _ _)) (@pe_op _ _ _ _ _ _ _ _ (@op_fdiv _) (@pvD _ 7 _ _ (by rfl) (by first | exact Or.inl rfl | exact Or.inr (Or.inl rfl) | exact Or.inr (Or.inr rfl)) (by decide) (by decide)) (@pe_int _ _ _ _))) (@pe_int _ _ _ _)) (fun _ _ => rfl))) (by rfl) (by first | exact .inl rfl | exact .inr rfl | assumption))))) (@pss_nil _)) (@pss_mid _ _ _ _ _ (@ps_if _ _ _ _ _ _ _ _ (@pt_cmpR _ _ _ _ _ _ _ _ (@op_in_seq _) (@pvD _ 9 _ _ (by rfl) (by first | exact Or.inl rfl | exact Or.inr (Or.inl rfl) | exact Or.inr (Or.inr rfl)) (by decide) (by decide)) (@pvD _ 1 _ _ (by rfl) (by first | exact Or.inl rfl | exact Or.inr (Or.inl rfl) | exact Or.inr (Or.inr rfl)) (by decide) (by decide)) (by with_unfolding_all rfl)) (@pss_one _ _ _ (@ps_set _ _ 9 _ _ _ _ nd rfl (by first | exact Or.inl rfl | exact Or.inr rfl) (@pe_op _ _ _ _ _ _ _ _ (@op_add_str _) (@pvD _ 9 _ _ (by rfl) (by first | exact Or.inl rfl | exact Or.inr (Or.inl rfl) | exact Or.inr (Or.inr rfl)) (by decide) (by decide)) (@pe_str _ _ _ _)) (by rfl) (by first | exact .inl rfl | exact .inr rfl | assumption))) (@pss_nil _)) (@pss_one _ _ _ (@ps_expr _ _ _ _ (@pe_bm _ _ _ _ _ _ _ _ _ _ _ _ PySem.F.plainAttrs_list PySem.F.slot_list_append PySem.F.type_list_append (@mt_append _) (@pvD _ 6 _ _ (by rfl) (by first | exact Or.inl rfl | exact Or.inr (Or.inl rfl) | exact Or.inr (Or.inr rfl)) (by decide) (by decide)) (@pa_cons _ _ _ _ _ (@pvD _ 9 _ _ (by rfl) (by first | exact Or.inl rfl | exact Or.inr (Or.inl rfl) | exact Or.inr (Or.inr rfl)) (by decide) (by decide)) (@pa_nil _) (by rfl)) (by rfl) (by rfl) (by rfl) (by rfl) (by rfl)) (by rfl)))))))) (by intro _; rfl)) (@pss_one _ _ _ (@ps_ret _ _ _ _ (@pvD _ 6 _ _ (by rfl) (by first | exact Or.inl rfl | exact Or.inr (Or.inl rfl) | exact Or.inr (Or.inr rfl)) (by decide) (by decide))))))))))), ?_⟩
  rw [show start ["deck", "own", "letters", "cell", "more", "tail", "names", "k", "sign", "name"] [.ref d] = [some (.ref d), none, none, none, none, none, none, none, none, none] from rfl]
  clear hu hu0 nd hr
  push_cast [spNext, spNext, CDiv]
  have sz := sizeLine_eq
  refine ⟨by show (9 : Nat) ≤ sizeLine; decide, fun p hp => ⟨b, ns, n, hD.same (same_new hp _), by omega, fun c H1 s1 d1 => rIxS_let ⟨_, rfl, by omega, by omega, by show (1 : Nat) ≤ 1000; decide, Nat.zero_le _, fun l hl => ?_⟩⟩⟩
  have npd : p ≠ d := (ne_of_none hD.1 hp).symm
  have p1 : H1 p = some (.lst (ownW.map V.str)) := s1 p _ npd upd_same
  have S1 : SameB d H H1 := (SameB.of (same_new hp (.lst (ownW.map V.str)))).trans s1
  have fl := S1.free d1 hl
  have nld : l ≠ d := (ne_of_none d1 hl).symm
  have nlp : l ≠ p := (ne_of_none p1 hl).symm
  refine forW_range (lo := 0) (fun j σ H' => ∃ v7 v8 v9 : Option V, σ = [some (.ref d), some (.ref p), some (.str abcS), some (.int c), some (.int (c / 3)), some (.str (tailS (c / 3))), some (.ref l), v7, v8, v9] ∧ SameB d H H' ∧ H' d = some (.lst [.ref b, .int ((n + 1 : Nat) : Int)]) ∧ H' p = some (.lst (ownW.map V.str)) ∧ H' l = some (.lst ((List.range j).map fun k => V.str (nmP c k)))) ⟨none, none, none, rfl, S1.upd fl _, same_new hl _ _ _ d1, same_new hl _ _ _ p1, upd_same⟩ ?_ ?_
  · rintro j σ H5 hj ⟨v7, v8, v9, rfl, s5, d5, p5, l5⟩
    push_cast [and_true]
    simp only [Int.zero_add]
    refine rIxS_let (rIxS_let ⟨_, rfl, _, rfl, by rw [ltr_len, ltr_len]; omega, by have := nm0_len (c / 3) (c / 3) j; unfold nm0 at this; rw [Str.length_append] at this; omega, ?_⟩)
    refine tMid_of (fun σ' H6 => σ' = [some (.ref d), some (.ref p), some (.str abcS), some (.int c), some (.int (c / 3)), some (.str (tailS (c / 3))), some (.ref l), some (.int (j : Int)), some (.str (ltr (c / 3 + (j : Int)))), some (.str (if c % 3 = 1 then nm1 (c / 3) j else nm0 (c / 3) (tailS (c / 3)) j))] ∧ H5 = H6) ?_ ?_
    · push_cast [and_true]
      refine ⟨rfl, ite2 (fun e => ?_) fun e => ?_⟩
      · rw [if_pos e]
        have b1 : (((j : Int) + c / 3) % 9).toNat < ownW.length := by show _ < 9; omega
        have g := nm1_len (c / 3) j
        have g2 : nm1 (c / 3) j = ownW[(((j : Int) + c / 3) % 9).toNat] ++ ltr (c / 3 / 9 + (j : Int) / 9) := by
          unfold nm1
          rw [List.getD_eq_getElem?_getD, List.getElem?_eq_getElem b1]
          rfl
        refine rIxL_ok (v := .str ownW[(((j : Int) + c / 3) % 9).toNat]) p5 ?_ (rIxS_let ⟨_, rfl, _, rfl, ?_, g2.symm, rfl⟩)
        · have g3 : ((((j : Int) + c / 3) % 9).toNat : Int) = ((j : Int) + c / 3) % 9 := by omega
          have g4 := atI_nat (xs := ownW.map V.str) (j := (((j : Int) + c / 3) % 9).toNat) (v := .str ownW[(((j : Int) + c / 3) % 9).toNat]) (by rw [List.getElem?_map, List.getElem?_eq_getElem b1]; rfl)
          rw [g3] at g4
          exact g4
        · rw [g2, Str.length_append] at g
          omega
      · rw [if_neg e]
        rfl
    rintro _ _ ⟨rfl, rfl⟩
    refine tMid_of (fun σ' H6 => ∃ v8 : Option V, σ' = [some (.ref d), some (.ref p), some (.str abcS), some (.int c), some (.int (c / 3)), some (.str (tailS (c / 3))), some (.ref l), some (.int (j : Int)), v8, some (.str (nmX c j))] ∧ H5 = H6) ?_ ?_
    · push_cast [and_true]
      refine ⟨rfl, ite2 (fun e => ?_) fun e => ?_⟩
      · refine rIxS_let ⟨_, rfl, by omega, by omega, by rw [ltr_len]; omega, rIxS_let ⟨_, rfl, by omega, by omega, by rw [ltr_len]; omega, by rw [mul_len, mul_len]; omega, rIxS_let ⟨_, rfl, by rw [Str.length_append, mul_len, mul_len, ltr_len]; omega, ?_, rfl⟩⟩⟩
        unfold nmX
        rw [if_pos e]
        rfl
      · unfold nmX
        rw [if_neg e]
    rintro _ _ ⟨v8', rfl, rfl⟩
    refine tMid_of (fun σ' H6 => ∃ v8 : Option V, σ' = [some (.ref d), some (.ref p), some (.str abcS), some (.int c), some (.int (c / 3)), some (.str (tailS (c / 3))), some (.ref l), some (.int (j : Int)), v8, some (.str (nmP c j))] ∧ H5 = H6) ?_ ?_
    · push_cast [rIn]
      have g := nmX_len c j
      have hx : (Str.ofString "xq").length = 2 := xq_len
      refine ⟨_, .inl (SqL.of p5), rfl, List.all_eq_true.mpr fun x hx => by obtain ⟨z, _, rfl⟩ := List.mem_map.mp hx; rfl, ite2 (fun e => ⟨by omega, ?_⟩) fun e => ?_⟩
      · unfold nmP
        rw [if_pos ((own_in _).mp e)]
      · unfold nmP
        rw [if_neg fun h => e ((own_in _).mpr h)]
    rintro _ _ ⟨v8'', rfl, rfl⟩
    push_cast [and_true]
    refine append_ok l5 (by rw [List.length_map, List.length_range]; omega) ⟨s5.upd fl _, by rw [upd_ne nld.symm]; exact d5, by rw [upd_ne nlp.symm]; exact p5, ?_⟩
    rw [upd_same, List.range_succ, List.map_append]
    rfl
  · rintro σ H5 ⟨v7, v8, v9, rfl, s5, d5, p5, l5⟩
    push_cast [and_true]
    exact q l H5 _ s5 d5 (names_made l5)
abbrev sLaw : Stmt := top 23
theorem scLaw : FnScope ["script", "deck", "cell", "names", "book", "words", "ends", "k", "rule"] ["script"] (defScope sLaw) := ⟨rfl, rfl, rfl, by decide +kernel, rfl, by decide +kernel, by decide +kernel⟩
theorem hasLaw {f : Addr} {fd : FuncData} (G : Gs w K mg) (h_law_book : Has P w K mg base k "_law_book" ["deck", "names"] spBook) (h_law_ends : Has P w K mg base k "_law_ends" ["words"] (spEnds K)) (h_law_filled : Has P w K mg base k "_law_filled" ["deck", "book", "rule", "names"] spFilled) (h_law_names : Has P w K mg base k "_law_names" ["deck"] spNamesD) (h_law_next : Has P w K mg base k "_law_next" ["deck"] spNext) (h_law_term : Has P w K mg base k "_law_term" ["deck", "names", "most"] spTermT) (h_law_told : Has P w K mg base k "_law_told" ["book", "words", "place", "ends"] spTold) (h_fit : Has P w K mg base k "fit" ["book", "rule", "words", "place"] spFit) (F : Fun K "law" "law" sLaw f fd) : FnOk P w K mg base CX0 (k + 1) f fd ["script"] (spLaw K) := by
  refine F.ok scLaw (fun vs H Q E h => ?_) (fun cdv A outer s H vs Q E hr h => ?_)
  · obtain ⟨_, _, rfl, _, _, _⟩ := h
    rfl
  have nd := scLaw.nd
  have hu := hu_of hr
  have hu0 := Nat.lt_of_succ_lt hu
  obtain ⟨a, ns, rfl, hA, hn, q⟩ := h
  have m_len := G.m_len
  have m_min := G.m_min
  have m_range := G.m_range
  refine ⟨_, (@pss_cons _ _ _ _ _ (@ps_set _ _ 1 _ _ _ _ nd rfl (by first | exact Or.inl rfl | exact Or.inr rfl) (@pe_lst _ _ _ _ (@pa_cons _ _ _ _ _ (@pe_slice _ _ _ _ _ _ _ _ _ _ (@sl_list _) (@pvD _ 0 _ _ (by rfl) (by first | exact Or.inl rfl | exact Or.inr (Or.inl rfl) | exact Or.inr (Or.inr rfl)) (by decide) (by decide)) (@po_none _) (@po_some _ _ _ (@pe_int _ _ _ _))) (@pa_cons _ _ _ _ _ (@pe_int _ _ _ _) (@pa_nil _) (by rfl)) (by rfl))) (by rfl) (by first | exact .inl rfl | exact .inr rfl | assumption)) (@pss_cons _ _ _ _ _ (@ps_set _ _ 2 _ _ _ _ nd rfl (by first | exact Or.inl rfl | exact Or.inr rfl) (@pe_has _ _ _ _ _ _ _ _ _ _ h_law_next hr (@pa_cons _ _ _ _ _ (@pvD _ 1 _ _ (by rfl) (by first | exact Or.inl rfl | exact Or.inr (Or.inl rfl) | exact Or.inr (Or.inr rfl)) (by decide) (by decide)) (@pa_nil _) (by rfl)) (by rfl) (by decide +kernel) (by rfl) (by rfl)) (by rfl) (by first | exact .inl rfl | exact .inr rfl | assumption)) (@pss_cons _ _ _ _ _ (@ps_set _ _ 3 _ _ _ _ nd rfl (by first | exact Or.inl rfl | exact Or.inr rfl) (@pe_has _ _ _ _ _ _ _ _ _ _ h_law_names hr (@pa_cons _ _ _ _ _ (@pvD _ 1 _ _ (by rfl) (by first | exact Or.inl rfl | exact Or.inr (Or.inl rfl) | exact Or.inr (Or.inr rfl)) (by decide) (by decide)) (@pa_nil _) (by rfl)) (by rfl) (by decide +kernel) (by rfl) (by rfl)) (by rfl) (by first | exact .inl rfl | exact .inr rfl | assumption)) (@pss_cons _ _ _ _ _ (@ps_set _ _ 4 _ _ _ _ nd rfl (by first | exact Or.inl rfl | exact Or.inr rfl) (@pe_has _ _ _ _ _ _ _ _ _ _ h_law_book hr (@pa_cons _ _ _ _ _ (@pvD _ 1 _ _ (by rfl) (by first | exact Or.inl rfl | exact Or.inr (Or.inl rfl) | exact Or.inr (Or.inr rfl)) (by decide) (by decide)) (@pa_cons _ _ _ _ _ (@pvD _ 3 _ _ (by rfl) (by first | exact Or.inl rfl | exact Or.inr (Or.inl rfl) | exact Or.inr (Or.inr rfl)) (by decide) (by decide)) (@pa_nil _) (by rfl)) (by rfl)) (by rfl) (by decide +kernel) (by rfl) (by rfl)) (by rfl) (by first | exact .inl rfl | exact .inr rfl | assumption)) (@pss_cons _ _ _ _ _ (@ps_set _ _ 5 _ _ _ _ nd rfl (by first | exact Or.inl rfl | exact Or.inr rfl) (@pe_has _ _ _ _ _ _ _ _ _ _ h_law_term hr (@pa_cons _ _ _ _ _ (@pvD _ 1 _ _ (by rfl) (by first | exact Or.inl rfl | exact Or.inr (Or.inl rfl) | exact Or.inr (Or.inr rfl)) (by decide) (by decide)) (@pa_cons _ _ _ _ _ (@pvD _ 3 _ _ (by rfl) (by first | exact Or.inl rfl | exact Or.inr (Or.inl rfl) | exact Or.inr (Or.inr rfl)) (by decide) (by decide)) (@pa_cons _ _ _ _ _ (@pe_ix _ _ _ _ _ _ _ (@ix_list _) (@pe_lst _ _ _ _ (@pa_const _ _ _ (@CsOk.int _ _ _ _ _ (@CsOk.int _ _ _ _ _ (@CsOk.int _ _ _ _ _ (@CsOk.nil)))))) (@pe_op _ _ _ _ _ _ _ _ (@op_mod _) (@pvD _ 2 _ _ (by rfl) (by first | exact Or.inl rfl | exact Or.inr (Or.inl rfl) | exact Or.inr (Or.inr rfl)) (by decide) (by decide)) (@pe_int _ _ _ _)) (fun _ _ => rfl)) (@pa_nil _) (by rfl)) (by rfl)) (by rfl)) (by rfl) (by decide +kernel) (by rfl) (by rfl)) (by rfl) (by first | exact .inl rfl | exact .inr rfl | assumption)) (@pss_cons _ _ _ _ _ (@ps_set _ _ 6 _ _ _ _ nd rfl (by first | exact Or.inl rfl | exact Or.inr rfl) (@pe_has _ _ _ _ _ _ _ _ _ _ h_law_ends hr (@pa_cons _ _ _ _ _ (@pvD _ 5 _ _ (by rfl) (by first | exact Or.inl rfl | exact Or.inr (Or.inl rfl) | exact Or.inr (Or.inr rfl)) (by decide) (by decide)) (@pa_nil _) (by rfl)) (by rfl) (by decide +kernel) (by rfl) (by rfl)) (by rfl) (by first | exact .inl rfl | exact .inr rfl | assumption)) (@pss_cons _ _ _ _ _ (@ps_for _ _ _ _ _ _ _ _ PassesOwn.never rfl (@pi_range1 _ _ _ _ _ _ rfl m_range (@pa_cons _ _ _ _ _ (@pe_callB _ _ _ _ _ _ _ _ _ (@call_min2 _ rfl) rfl m_min b_min (@pa_cons _ _ _ _ _ (@pe_int _ _ _ _) (@pa_cons _ _ _ _ _ (@pe_callB _ _ _ _ _ _ _ _ _ (@call_len_seq _) rfl m_len b_len (@pa_cons _ _ _ _ _ (@pvD _ 5 _ _ (by rfl) (by first | exact Or.inl rfl | exact Or.inr (Or.inl rfl) | exact Or.inr (Or.inr rfl)) (by decide) (by decide)) (@pa_nil _) (by rfl)) (by decide) (by decide) (by rfl) (by rfl)) (@pa_nil _) (by rfl)) (by rfl)) (by decide) (by decide) (by rfl) (by rfl)) (@pa_nil _) (by rfl)) (by rfl)) (@pg_name _ _ 7 _ nd rfl (by first | exact Or.inl rfl | exact Or.inr rfl) (by first | exact .inl rfl | exact .inr rfl | assumption)) (@pss_one _ _ _ (@ps_if _ _ _ _ _ _ _ _ (@pt_not _ _ _ _ (@pt_val _ _ _ (@pe_has _ _ _ _ _ _ _ _ _ _ h_law_told hr (@pa_cons _ _ _ _ _ (@pvD _ 4 _ _ (by rfl) (by first | exact Or.inl rfl | exact Or.inr (Or.inl rfl) | exact Or.inr (Or.inr rfl)) (by decide) (by decide)) (@pa_cons _ _ _ _ _ (@pvD _ 5 _ _ (by rfl) (by first | exact Or.inl rfl | exact Or.inr (Or.inl rfl) | exact Or.inr (Or.inr rfl)) (by decide) (by decide)) (@pa_cons _ _ _ _ _ (@pe_op _ _ _ _ _ _ _ _ (@op_mod _) (@pe_op _ _ _ _ _ _ _ _ (@op_add _) (@pe_op _ _ _ _ _ _ _ _ (@op_fdiv _) (@pvD _ 2 _ _ (by rfl) (by first | exact Or.inl rfl | exact Or.inr (Or.inl rfl) | exact Or.inr (Or.inr rfl)) (by decide) (by decide)) (@pe_int _ _ _ _)) (@pvD _ 7 _ _ (by rfl) (by first | exact Or.inl rfl | exact Or.inr (Or.inl rfl) | exact Or.inr (Or.inr rfl)) (by decide) (by decide))) (@pe_callB _ _ _ _ _ _ _ _ _ (@call_len_seq _) rfl m_len b_len (@pa_cons _ _ _ _ _ (@pvD _ 5 _ _ (by rfl) (by first | exact Or.inl rfl | exact Or.inr (Or.inl rfl) | exact Or.inr (Or.inr rfl)) (by decide) (by decide)) (@pa_nil _) (by rfl)) (by decide) (by decide) (by rfl) (by rfl))) (@pa_cons _ _ _ _ _ (@pvD _ 6 _ _ (by rfl) (by first | exact Or.inl rfl | exact Or.inr (Or.inl rfl) | exact Or.inr (Or.inr rfl)) (by decide) (by decide)) (@pa_nil _) (by rfl)) (by rfl)) (by rfl)) (by rfl)) (by rfl) (by decide +kernel) (by rfl) (by rfl)) (by intro _; rfl))) (@pss_one _ _ _ (@ps_ret _ _ _ _ (@pe_bl _ _ _ _))) (@pss_nil _))) (by intro _; rfl)) (@pss_cons _ _ _ _ _ (@ps_set _ _ 8 _ _ _ _ nd rfl (by first | exact Or.inl rfl | exact Or.inr rfl) (@pe_ix _ _ _ _ _ _ _ (@ix_tup _) (@pe_ix _ _ _ _ _ _ _ (@ix_tup _) (@pvD _ 4 _ _ (by rfl) (by first | exact Or.inl rfl | exact Or.inr (Or.inl rfl) | exact Or.inr (Or.inr rfl)) (by decide) (by decide)) (@pe_int _ _ _ _) (fun _ _ => rfl)) (@pe_op _ _ _ _ _ _ _ _ (@op_mod _) (@pe_op _ _ _ _ _ _ _ _ (@op_fdiv _) (@pvD _ 2 _ _ (by rfl) (by first | exact Or.inl rfl | exact Or.inr (Or.inl rfl) | exact Or.inr (Or.inr rfl)) (by decide) (by decide)) (@pe_int _ _ _ _)) (@pe_callB _ _ _ _ _ _ _ _ _ (@call_len_seq _) rfl m_len b_len (@pa_cons _ _ _ _ _ (@pe_ix _ _ _ _ _ _ _ (@ix_tup _) (@pvD _ 4 _ _ (by rfl) (by first | exact Or.inl rfl | exact Or.inr (Or.inl rfl) | exact Or.inr (Or.inr rfl)) (by decide) (by decide)) (@pe_int _ _ _ _) (fun _ _ => rfl)) (@pa_nil _) (by rfl)) (by decide) (by decide) (by rfl) (by rfl))) (fun _ _ => rfl)) (by rfl) (by first | exact .inl rfl | exact .inr rfl | assumption)) (@pss_cons _ _ _ _ _ (@ps_set _ _ 5 _ _ _ _ nd rfl (by first | exact Or.inl rfl | exact Or.inr rfl) (@pe_has _ _ _ _ _ _ _ _ _ _ h_law_filled hr (@pa_cons _ _ _ _ _ (@pvD _ 1 _ _ (by rfl) (by first | exact Or.inl rfl | exact Or.inr (Or.inl rfl) | exact Or.inr (Or.inr rfl)) (by decide) (by decide)) (@pa_cons _ _ _ _ _ (@pvD _ 4 _ _ (by rfl) (by first | exact Or.inl rfl | exact Or.inr (Or.inl rfl) | exact Or.inr (Or.inr rfl)) (by decide) (by decide)) (@pa_cons _ _ _ _ _ (@pvD _ 8 _ _ (by rfl) (by first | exact Or.inl rfl | exact Or.inr (Or.inl rfl) | exact Or.inr (Or.inr rfl)) (by decide) (by decide)) (@pa_cons _ _ _ _ _ (@pvD _ 3 _ _ (by rfl) (by first | exact Or.inl rfl | exact Or.inr (Or.inl rfl) | exact Or.inr (Or.inr rfl)) (by decide) (by decide)) (@pa_nil _) (by rfl)) (by rfl)) (by rfl)) (by rfl)) (by rfl) (by decide +kernel) (by rfl) (by rfl)) (by rfl) (by first | exact .inl rfl | exact .inr rfl | assumption)) (@pss_cons _ _ _ _ _ (@ps_if _ _ _ _ _ _ _ _ (@pt_cmp _ _ _ _ _ _ (@pc_isN _ _ _ _ _ (@pe_has _ _ _ _ _ _ _ _ _ _ h_fit hr (@pa_cons _ _ _ _ _ (@pvD _ 4 _ _ (by rfl) (by first | exact Or.inl rfl | exact Or.inr (Or.inl rfl) | exact Or.inr (Or.inr rfl)) (by decide) (by decide)) (@pa_cons _ _ _ _ _ (@pe_ix _ _ _ _ _ _ _ (@ix_tup _) (@pvD _ 8 _ _ (by rfl) (by first | exact Or.inl rfl | exact Or.inr (Or.inl rfl) | exact Or.inr (Or.inr rfl)) (by decide) (by decide)) (@pe_int _ _ _ _) (fun _ _ => rfl)) (@pa_cons _ _ _ _ _ (@pvD _ 5 _ _ (by rfl) (by first | exact Or.inl rfl | exact Or.inr (Or.inl rfl) | exact Or.inr (Or.inr rfl)) (by decide) (by decide)) (@pa_cons _ _ _ _ _ (@pe_int _ _ _ _) (@pa_nil _) (by rfl)) (by rfl)) (by rfl)) (by rfl)) (by rfl) (by decide +kernel) (by rfl) (by rfl))) (by first | exact nobehind _ (by decide) (by decide) | rfl)) (@pss_one _ _ _ (@ps_ret _ _ _ _ (@pe_bl _ _ _ _))) (@pss_nil _)) (@pss_one _ _ _ (@ps_ret _ _ _ _ (@pe_has _ _ _ _ _ _ _ _ _ _ h_law_told hr (@pa_cons _ _ _ _ _ (@pvD _ 4 _ _ (by rfl) (by first | exact Or.inl rfl | exact Or.inr (Or.inl rfl) | exact Or.inr (Or.inr rfl)) (by decide) (by decide)) (@pa_cons _ _ _ _ _ (@pvD _ 5 _ _ (by rfl) (by first | exact Or.inl rfl | exact Or.inr (Or.inl rfl) | exact Or.inr (Or.inr rfl)) (by decide) (by decide)) (@pa_cons _ _ _ _ _ (@pe_int _ _ _ _) (@pa_cons _ _ _ _ _ (@pe_has _ _ _ _ _ _ _ _ _ _ h_law_ends hr (@pa_cons _ _ _ _ _ (@pvD _ 5 _ _ (by rfl) (by first | exact Or.inl rfl | exact Or.inr (Or.inl rfl) | exact Or.inr (Or.inr rfl)) (by decide) (by decide)) (@pa_nil _) (by rfl)) (by rfl) (by decide +kernel) (by rfl) (by rfl)) (@pa_nil _) (by rfl)) (by rfl)) (by rfl)) (by rfl)) (by rfl) (by decide +kernel) (by rfl) (by rfl)))))))))))))), ?_⟩
  rw [show start ["script", "deck", "cell", "names", "book", "words", "ends", "k", "rule"] [.ref a] = [some (.ref a), none, none, none, none, none, none, none, none] from rfl]
  clear hu hu0 nd hr
  push_cast [spBook, spEnds, spFilled, spNamesD, spNext, spTermT, spTold, spFit, spNext, CDiv]
  have sz := sizeLine_eq
  obtain ⟨ms, em, hms⟩ := cut_ints ns none (some 200)
  refine ⟨ns.map V.int, hA, fun p hp => ?_⟩
  rw [em]
  refine ⟨by show (2 : Nat) ≤ sizeLine; decide, fun d hd => ⟨p, ms, 0, ⟨upd_same, same_new hd _ _ _ upd_same⟩, by decide, fun c H1 s1 d1 => ?_⟩⟩
  have D1 : Deck H1 d p ms 1 := Deck.next ⟨upd_same, same_new hd _ _ _ upd_same⟩ s1 d1
  refine ⟨p, ms, 1, D1, by omega, fun nl H2 zs s2 d2 N2 => ?_⟩
  have D2 : Deck H2 d p ms 2 := D1.next s2 d2
  refine ⟨p, ms, zs, 2, D2, N2, by omega, fun bt n3 H3 kinds rs s3 d3 hn3 B3 bk hrs => ?_⟩
  have D3 := D2.next s3 d3
  have N3 := N2.sameB D2 s3
  refine ⟨by show (3 : Nat) ≤ sizeLine; decide, fun p4 hp4 => ?_⟩
  obtain ⟨m, hm1, hm2, hat⟩ : ∃ m : Nat, 1 ≤ m ∧ m ≤ 60 ∧ atI [V.int 1, V.int 9, V.int 40] (c % 3) = some (.int (m : Int)) := by
    rcases (show c % 3 = ((0 : Nat) : Int) ∨ c % 3 = ((1 : Nat) : Int) ∨ c % 3 = ((2 : Nat) : Int) by omega) with e | e | e
    · rw [e]
      exact ⟨1, by decide, by decide, atI_nat rfl⟩
    · rw [e]
      exact ⟨9, by decide, by decide, atI_nat rfl⟩
    · rw [e]
      exact ⟨40, by decide, by decide, atI_nat rfl⟩
  have q4 := same_new hp4 (.lst [V.int 1, V.int 9, V.int 40])
  refine rIxL_ok upd_same hat ⟨p, ms, zs, m, rfl, n3, D3.same q4, N3.same q4, hm1, hm2, by omega, fun t n5 H5 ws s5 d5 hn5 ht h5 tw hwl => ?_⟩
  have B5 := (B3.same q4).keep (sameB_tup (D3.same q4) s5)
  have N5 := (N3.same q4).sameB (D3.same q4) s5
  have D5 := (D3.same q4).next s5 d5
  have wp := tw.pos
  refine ⟨ws, SqT.of h5, fun v hv => (tw.w v hv).1, tw.one, by omega, fun et H6 s6 het e6 => ⟨ws, .inr (SqT.of (s6 _ _ h5)), by split <;> omega, by split <;> omega, ?_⟩⟩
  refine forW_range (lo := 0) (fun j σ H' => ∃ v7 : Option V, σ = [some (.ref a), some (.ref d), some (.int c), some (.ref nl), some (.ref bt), some (.ref t), some (.ref et), v7, none] ∧ Same H6 H') ⟨none, rfl, Same.refl _⟩ ?_ ?_
  · rintro j σ H7 hj ⟨v7, rfl, s7⟩
    push_cast [spTold]
    have s67 := s6.trans s7
    have h1 := Int.emod_nonneg (c / 3 + (0 + (j : Int))) (show ((ws.length : Nat) : Int) ≠ 0 by omega)
    have h2 := Int.emod_lt_of_pos (c / 3 + (0 + (j : Int))) (show (0 : Int) < ((ws.length : Nat) : Int) by omega)
    refine ⟨ws, .inr (SqT.of (s67 _ _ h5)), by omega, et, kinds, rs, ws, ((c / 3 + (0 + (j : Int))) % ((ws.length : Nat) : Int)).toNat, by omega, rfl, B5.same s67, s67 _ _ h5, s7 _ _ e6, bk, tw, by omega, fun H8 s8 => ?_⟩
    rw [if_neg (show ¬ (!true) = true by decide)]
    exact s7.trans s8
  · rintro σ H7 ⟨v7, rfl, s7⟩
    have s67 := s6.trans s7
    have B7 := B5.same s67
    have D7 := D5.same s67
    have N7 := N5.same s67
    obtain ⟨kt, rt, ra, hb, hkt, hrt, hRA⟩ := id B7
    have ral : ra.length = rs.length := hRA.1
    obtain ⟨i, hi, ei⟩ : ∃ i : Nat, i < rs.length ∧ c / 9 % (((ra.map V.ref).length : Nat) : Int) = (i : Int) := by
      rw [List.length_map]
      have h1 := Int.emod_nonneg (c / 9) (show ((ra.length : Nat) : Int) ≠ 0 by omega)
      have h2 := Int.emod_lt_of_pos (c / 9) (show (0 : Int) < ((ra.length : Nat) : Int) by omega)
      exact ⟨(c / 9 % ((ra.length : Nat) : Int)).toNat, by omega, by omega⟩
    obtain ⟨r, hri⟩ : ∃ r, rs[i]? = some r := ⟨_, List.getElem?_eq_getElem hi⟩
    obtain ⟨a', ha', hR⟩ := hRA.2 i r hri
    push_cast [spTold, spFilled, spFit, spEnds, tIsN]
    refine rIxT_ok hb rfl (rIxT_ok hb rfl ⟨rt, rfl, _, .inr (SqT.of hrt), by rw [List.length_map]; omega, rIxT_ok (v := .ref a') hrt (by rw [ei]; exact atI_nat (by rw [List.getElem?_map, ha']; rfl)) ⟨a', rfl, p, ms, kinds, rs, r, zs, n5, D7, B7, bk, hR, List.mem_of_getElem? hri, N7, by omega, fun t2 H8 ws2 s8 ht2 h8 tw2 hu => ?_⟩⟩)
    obtain ⟨u, hu⟩ := hu
    obtain ⟨sa, da, ds, g1, g2, g3⟩ := hR.keep (sameB_tup D7 s8)
    have B8 := B7.keep (sameB_tup D7 s8)
    push_cast [spTold, spFilled, spFit, spEnds, tIsN]
    refine rIxT_ok g1 rfl ⟨t2, kinds, rs, ws2, 0, i, r, rfl, rfl, rfl, B8, h8, bk, tw2, tw2.pos, hri, fun H9 s9 => ?_⟩
    rw [hu]
    intro t10 H10 s10 hu10 ok10
    show if V.ref t10 = V.non then _ else _
    rw [if_neg (by intro e; cases e)]
    have S10 := s9.trans s10
    refine ⟨ws2, SqT.of (S10 _ _ h8), fun v hv => (tw2.w v hv).1, tw2.one, tw2.len, fun l H11 s11 hl e11 => ⟨l, kinds, rs, ws2, 0, rfl, rfl, B8.same (S10.trans s11), s11 _ _ (S10 _ _ h8), e11, bk, tw2, tw2.pos, fun H12 s12 => q _⟩⟩
end
end K41
namespace K41
open PySem PySem.Spec L2 PyProof.Rows Pc
theorem all_mk {l : PySem.W.OpenLaw} {w : World} {K : PySem.W.Frag} {h : Heap} {mg : Str → Option Value} {fa : Addr} (X : K.In h) (G : h.Ns mainGlobals mg) (hfa : mg "law" = some (.ref fa))
    {f0 f1 f2 f3 f4 f5 f6 f7 f8 f9 f10 f11 f12 f13 f14 f15 f16 f17 g0 : Addr} {od0 an0 od1 an1 od2 an2 od3 an3 od4 an4 od5 an5 od6 an6 od7 an7 od8 an8 od9 an9 od10 an10 od11 an11 od12 an12 od13 an13 od14 an14 od15 an15 od16 an16 od17 an17 : Option Addr} {sl0 sl1 sl2 sl3 sl4 sl5 sl6 sl7 sl8 sl9 sl10 sl11 sl12 sl13 sl14 sl15 sl16 sl17 : Array (Option Value)} {oc0 kV0 dc0 pm0 cd0 ct0 oc1 kV1 dc1 pm1 cd1 ct1 oc2 kV2 dc2 pm2 cd2 ct2 oc3 kV3 dc3 pm3 cd3 ct3 oc4 kV4 dc4 pm4 cd4 ct4 oc5 kV5 dc5 pm5 cd5 ct5 oc6 kV6 dc6 pm6 cd6 ct6 oc7 kV7 dc7 pm7 cd7 ct7 oc8 kV8 dc8 pm8 cd8 ct8 oc9 kV9 dc9 pm9 cd9 ct9 oc10 kV10 dc10 pm10 cd10 ct10 oc11 kV11 dc11 pm11 cd11 ct11 oc12 kV12 dc12 pm12 cd12 ct12 oc13 kV13 dc13 pm13 cd13 ct13 oc14 kV14 dc14 pm14 cd14 ct14 oc15 kV15 dc15 pm15 cd15 ct15 oc16 kV16 dc16 pm16 cd16 ct16 oc17 kV17 dc17 pm17 cd17 ct17 : Value} {dt0x0 dt0x1 dt0x2 dt0x3 du0x0 du0x1 du0x2 du0x3 dp0 : Nat} {dh0x0 dh0x1 dh0x2 dh0x3 : Int}
    (a0 : PySem.W.nsIn K mainGlobals "how_many_below" = some (some (.ref f0)))
    (l0 : K.lookup f0 = some ⟨oc0, od0, .func (PySem.W.fnOf "how_many_below" "how_many_below" (defArgs sHow) (defBody sHow) (defScope sHow) .none kV0 dc0 pm0 an0 cd0 ct0), sl0⟩)
    (c0 : PySem.W.codeIn K cd0 "how_many_below" = true)
    (k0 : PySem.W.keepIn K (.ref f0) = true)
    (a1 : PySem.W.nsIn K mainGlobals "place_behind" = some (some (.ref f1)))
    (l1 : K.lookup f1 = some ⟨oc1, od1, .func (PySem.W.fnOf "place_behind" "place_behind" (defArgs sBehind) (defBody sBehind) (defScope sBehind) .none kV1 dc1 pm1 an1 cd1 ct1), sl1⟩)
    (c1 : PySem.W.codeIn K cd1 "place_behind" = true)
    (k1 : PySem.W.keepIn K (.ref f1) = true)
    (a2 : PySem.W.nsIn K mainGlobals "leaf_letter" = some (some (.ref f2)))
    (l2 : K.lookup f2 = some ⟨oc2, od2, .func (PySem.W.fnOf "leaf_letter" "leaf_letter" (defArgs sLeaf) (defBody sLeaf) (defScope sLeaf) .none kV2 dc2 pm2 an2 cd2 ct2), sl2⟩)
    (c2 : PySem.W.codeIn K cd2 "leaf_letter" = true)
    (k2 : PySem.W.keepIn K (.ref f2) = true)
    (a3 : PySem.W.nsIn K mainGlobals "lies_upon" = some (some (.ref f3)))
    (l3 : K.lookup f3 = some ⟨oc3, od3, .func (PySem.W.fnOf "lies_upon" "lies_upon" (defArgs sLies) (defBody sLies) (defScope sLies) .none kV3 dc3 pm3 an3 cd3 ct3), sl3⟩)
    (c3 : PySem.W.codeIn K cd3 "lies_upon" = true)
    (k3 : PySem.W.keepIn K (.ref f3) = true)
    (a4 : PySem.W.nsIn K mainGlobals "laid" = some (some (.ref f4)))
    (l4 : K.lookup f4 = some ⟨oc4, od4, .func (PySem.W.fnOf "laid" "laid" (defArgs sLaid) (defBody sLaid) (defScope sLaid) .none kV4 dc4 pm4 an4 cd4 ct4), sl4⟩)
    (c4 : PySem.W.codeIn K cd4 "laid" = true)
    (k4 : PySem.W.keepIn K (.ref f4) = true)
    (a5 : PySem.W.nsIn K mainGlobals "fit" = some (some (.ref f5)))
    (l5 : K.lookup f5 = some ⟨oc5, od5, .func (PySem.W.fnOf "fit" "fit" (defArgs sFit) (defBody sFit) (defScope sFit) .none kV5 dc5 pm5 an5 cd5 ct5), sl5⟩)
    (c5 : PySem.W.codeIn K cd5 "fit" = true)
    (k5 : PySem.W.keepIn K (.ref f5) = true)
    (a6 : PySem.W.nsIn K mainGlobals "_law_next" = some (some (.ref f6)))
    (l6 : K.lookup f6 = some ⟨oc6, od6, .func (PySem.W.fnOf "_law_next" "_law_next" (defArgs sNext) (defBody sNext) (defScope sNext) .none kV6 dc6 pm6 an6 cd6 ct6), sl6⟩)
    (c6 : PySem.W.codeIn K cd6 "_law_next" = true)
    (k6 : PySem.W.keepIn K (.ref f6) = true)
    (a7 : PySem.W.nsIn K mainGlobals "_law_ends" = some (some (.ref f7)))
    (l7 : K.lookup f7 = some ⟨oc7, od7, .func (PySem.W.fnOf "_law_ends" "_law_ends" (defArgs sEnds) (defBody sEnds) (defScope sEnds) .none kV7 dc7 pm7 an7 cd7 ct7), sl7⟩)
    (c7 : PySem.W.codeIn K cd7 "_law_ends" = true)
    (k7 : PySem.W.keepIn K (.ref f7) = true)
    (a8 : PySem.W.nsIn K mainGlobals "_law_laid" = some (some (.ref f8)))
    (l8 : K.lookup f8 = some ⟨oc8, od8, .func (PySem.W.fnOf "_law_laid" "_law_laid" (defArgs sLLaid) (defBody sLLaid) (defScope sLLaid) .none kV8 dc8 pm8 an8 cd8 ct8), sl8⟩)
    (c8 : PySem.W.codeIn K cd8 "_law_laid" = true)
    (k8 : PySem.W.keepIn K (.ref f8) = true)
    (a9 : PySem.W.nsIn K mainGlobals "_law_same" = some (some (.ref f9)))
    (l9 : K.lookup f9 = some ⟨oc9, od9, .func (PySem.W.fnOf "_law_same" "_law_same" (defArgs sSame) (defBody sSame) (defScope sSame) .none kV9 dc9 pm9 an9 cd9 ct9), sl9⟩)
    (c9 : PySem.W.codeIn K cd9 "_law_same" = true)
    (k9 : PySem.W.keepIn K (.ref f9) = true)
    (a10 : PySem.W.nsIn K mainGlobals "_law_told" = some (some (.ref f10)))
    (l10 : K.lookup f10 = some ⟨oc10, od10, .func (PySem.W.fnOf "_law_told" "_law_told" (defArgs sTold) (defBody sTold) (defScope sTold) .none kV10 dc10 pm10 an10 cd10 ct10), sl10⟩)
    (c10 : PySem.W.codeIn K cd10 "_law_told" = true)
    (k10 : PySem.W.keepIn K (.ref f10) = true)
    (a11 : PySem.W.nsIn K mainGlobals "_law_term" = some (some (.ref f11)))
    (l11 : K.lookup f11 = some ⟨oc11, od11, .func (PySem.W.fnOf "_law_term" "_law_term" (defArgs sTerm) (defBody sTerm) (defScope sTerm) .none kV11 dc11 pm11 an11 cd11 ct11), sl11⟩)
    (c11 : PySem.W.codeIn K cd11 "_law_term" = true)
    (k11 : PySem.W.keepIn K (.ref f11) = true)
    (a12 : PySem.W.nsIn K mainGlobals "_law_shape" = some (some (.ref f12)))
    (l12 : K.lookup f12 = some ⟨oc12, od12, .func (PySem.W.fnOf "_law_shape" "_law_shape" (defArgs sShape) (defBody sShape) (defScope sShape) .none kV12 dc12 pm12 an12 cd12 ct12), sl12⟩)
    (c12 : PySem.W.codeIn K cd12 "_law_shape" = true)
    (k12 : PySem.W.keepIn K (.ref f12) = true)
    (a13 : PySem.W.nsIn K mainGlobals "_law_filled" = some (some (.ref f13)))
    (l13 : K.lookup f13 = some ⟨oc13, od13, .func (PySem.W.fnOf "_law_filled" "_law_filled" (defArgs sFilled) (defBody sFilled) (defScope sFilled) .none kV13 dc13 pm13 an13 cd13 ct13), sl13⟩)
    (c13 : PySem.W.codeIn K cd13 "_law_filled" = true)
    (k13 : PySem.W.keepIn K (.ref f13) = true)
    (a14 : PySem.W.nsIn K mainGlobals "_law_deeds" = some (some (.ref f14)))
    (l14 : K.lookup f14 = some ⟨oc14, od14, .func (PySem.W.fnOf "_law_deeds" "_law_deeds" (defArgs sDeeds) (defBody sDeeds) (defScope sDeeds) .none kV14 dc14 pm14 an14 cd14 ct14), sl14⟩)
    (c14 : PySem.W.codeIn K cd14 "_law_deeds" = true)
    (k14 : PySem.W.keepIn K (.ref f14) = true)
    (a15 : PySem.W.nsIn K mainGlobals "_law_book" = some (some (.ref f15)))
    (l15 : K.lookup f15 = some ⟨oc15, od15, .func (PySem.W.fnOf "_law_book" "_law_book" (defArgs sBook) (defBody sBook) (defScope sBook) .none kV15 dc15 pm15 an15 cd15 ct15), sl15⟩)
    (c15 : PySem.W.codeIn K cd15 "_law_book" = true)
    (k15 : PySem.W.keepIn K (.ref f15) = true)
    (a16 : PySem.W.nsIn K mainGlobals "_law_names" = some (some (.ref f16)))
    (l16 : K.lookup f16 = some ⟨oc16, od16, .func (PySem.W.fnOf "_law_names" "_law_names" (defArgs sNames) (defBody sNames) (defScope sNames) .none kV16 dc16 pm16 an16 cd16 ct16), sl16⟩)
    (c16 : PySem.W.codeIn K cd16 "_law_names" = true)
    (k16 : PySem.W.keepIn K (.ref f16) = true)
    (a17 : PySem.W.nsIn K mainGlobals "law" = some (some (.ref f17)))
    (l17 : K.lookup f17 = some ⟨oc17, od17, .func (PySem.W.fnOf "law" "law" (defArgs sLaw) (defBody sLaw) (defScope sLaw) .none kV17 dc17 pm17 an17 cd17 ct17), sl17⟩)
    (c17 : PySem.W.codeIn K cd17 "law" = true)
    (k17 : PySem.W.keepIn K (.ref f17) = true)
    (z0 : PySem.W.nsIn K mainGlobals "all" = some none)
    (z1 : PySem.W.nsIn K mainGlobals "bool" = some none)
    (z2 : PySem.W.nsIn K mainGlobals "int" = some none)
    (z3 : PySem.W.nsIn K mainGlobals "isinstance" = some none)
    (z4 : PySem.W.nsIn K mainGlobals "len" = some none)
    (z5 : PySem.W.nsIn K mainGlobals "list" = some none)
    (z6 : PySem.W.nsIn K mainGlobals "min" = some none)
    (z7 : PySem.W.nsIn K mainGlobals "range" = some none)
    (z8 : PySem.W.nsIn K mainGlobals "str" = some none)
    (z9 : PySem.W.nsIn K mainGlobals "tuple" = some none)
    (y0 : PySem.W.nsIn K mainGlobals "PARTS_BELOW" = some (some (.ref g0)))
    (x0 : K.lookup g0 = some ⟨.type "dict", none, .dict #[⟨dh0x0, .str "add" dt0x0, .int 2 du0x0⟩, ⟨dh0x1, .str "sub" dt0x1, .int 2 du0x1⟩, ⟨dh0x2, .str "mul" dt0x2, .int 2 du0x2⟩, ⟨dh0x3, .str "neg" dt0x3, .int 1 du0x3⟩] dp0, #[]⟩)
    (hh0x0 : dh0x0 = hashStr w "add")
    (hh0x1 : dh0x1 = hashStr w "sub")
    (hh0x2 : dh0x2 = hashStr w "mul")
    (hh0x3 : dh0x3 = hashStr w "neg")
    (ha0 : (g0 == sysModules) = false) :
    ∃ fd : FuncData, (∀ (s : Shared) (v : Value), BindsTo s fd ⟨[v], []⟩ [("script", v)]) ∧ ∀ base : Heap, K.In base → base.Ns mainGlobals mg → FnOk l.prog w K mg base CX0 6 fa fd ["script"] (spLaw K) := by
  have e := hfa.symm.trans (PySem.W.mg_of X G a17)
  cases e
  have G0 : Gs w K mg := ⟨PySem.W.mg_none_of X G z0, PySem.W.mg_none_of X G z1, PySem.W.mg_none_of X G z2, PySem.W.mg_none_of X G z3, PySem.W.mg_none_of X G z4, PySem.W.mg_none_of X G z5, PySem.W.mg_none_of X G z6, PySem.W.mg_none_of X G z7, PySem.W.mg_none_of X G z8, PySem.W.mg_none_of X G z9, ⟨g0, PySem.W.mg_of X G y0, modD_mk [(dh0x0, "add", dt0x0, 2, du0x0), (dh0x1, "sub", dt0x1, 2, du0x1), (dh0x2, "mul", dt0x2, 2, du0x2), (dh0x3, "neg", dt0x3, 1, du0x3)] x0 ha0 (by intro e he; simp only [List.mem_cons, List.not_mem_nil, or_false] at he; rcases he with rfl | rfl | rfl | rfl <;> assumption) (by show List.Nodup ([Sum.inr "add", Sum.inr "sub", Sum.inr "mul", Sum.inr "neg"] : List Key); decide +kernel)⟩⟩
  have F0 := fun_mk (st := sHow) l0 c0 k0
  have D0 : Def K mg "how_many_below" sHow ["word"] := ⟨f0, _, F0, F0.binds (ps := ["word"]) (fun _ _ _ _ _ _ us hl => by refine us1 (P := fun us => bindArgs _ ⟨us, []⟩ = pure (List.zip _ us)) hl ?_; intros; rfl), PySem.W.mg_of X G a0⟩
  have F1 := fun_mk (st := sBehind) l1 c1 k1
  have D1 : Def K mg "place_behind" sBehind ["words", "place"] := ⟨f1, _, F1, F1.binds (ps := ["words", "place"]) (fun _ _ _ _ _ _ us hl => by refine us2 (P := fun us => bindArgs _ ⟨us, []⟩ = pure (List.zip _ us)) hl ?_; intros; rfl), PySem.W.mg_of X G a1⟩
  have F2 := fun_mk (st := sLeaf) l2 c2 k2
  have D2 : Def K mg "leaf_letter" sLeaf ["word", "kinds"] := ⟨f2, _, F2, F2.binds (ps := ["word", "kinds"]) (fun _ _ _ _ _ _ us hl => by refine us2 (P := fun us => bindArgs _ ⟨us, []⟩ = pure (List.zip _ us)) hl ?_; intros; rfl), PySem.W.mg_of X G a2⟩
  have F3 := fun_mk (st := sLies) l3 c3 k3
  have D3 : Def K mg "lies_upon" sLies ["letter", "shape_word", "word"] := ⟨f3, _, F3, F3.binds (ps := ["letter", "shape_word", "word"]) (fun _ _ _ _ _ _ us hl => by refine us3 (P := fun us => bindArgs _ ⟨us, []⟩ = pure (List.zip _ us)) hl ?_; intros; rfl), PySem.W.mg_of X G a3⟩
  have F4 := fun_mk (st := sLaid) l4 c4 k4
  have D4 : Def K mg "laid" sLaid ["shape", "kinds", "words", "place"] := ⟨f4, _, F4, F4.binds (ps := ["shape", "kinds", "words", "place"]) (fun _ _ _ _ _ _ us hl => by refine us4 (P := fun us => bindArgs _ ⟨us, []⟩ = pure (List.zip _ us)) hl ?_; intros; rfl), PySem.W.mg_of X G a4⟩
  have F5 := fun_mk (st := sFit) l5 c5 k5
  have D5 : Def K mg "fit" sFit ["book", "rule", "words", "place"] := ⟨f5, _, F5, F5.binds (ps := ["book", "rule", "words", "place"]) (fun _ _ _ _ _ _ us hl => by refine us4 (P := fun us => bindArgs _ ⟨us, []⟩ = pure (List.zip _ us)) hl ?_; intros; rfl), PySem.W.mg_of X G a5⟩
  have F6 := fun_mk (st := sNext) l6 c6 k6
  have D6 : Def K mg "_law_next" sNext ["deck"] := ⟨f6, _, F6, F6.binds (ps := ["deck"]) (fun _ _ _ _ _ _ us hl => by refine us1 (P := fun us => bindArgs _ ⟨us, []⟩ = pure (List.zip _ us)) hl ?_; intros; rfl), PySem.W.mg_of X G a6⟩
  have F7 := fun_mk (st := sEnds) l7 c7 k7
  have D7 : Def K mg "_law_ends" sEnds ["words"] := ⟨f7, _, F7, F7.binds (ps := ["words"]) (fun _ _ _ _ _ _ us hl => by refine us1 (P := fun us => bindArgs _ ⟨us, []⟩ = pure (List.zip _ us)) hl ?_; intros; rfl), PySem.W.mg_of X G a7⟩
  have F8 := fun_mk (st := sLLaid) l8 c8 k8
  have D8 : Def K mg "_law_laid" sLLaid ["kinds", "shape", "words", "ends", "place"] := ⟨f8, _, F8, F8.binds (ps := ["kinds", "shape", "words", "ends", "place"]) (fun _ _ _ _ _ _ us hl => by refine us5 (P := fun us => bindArgs _ ⟨us, []⟩ = pure (List.zip _ us)) hl ?_; intros; rfl), PySem.W.mg_of X G a8⟩
  have F9 := fun_mk (st := sSame) l9 c9 k9
  have D9 : Def K mg "_law_same" sSame ["found", "due"] := ⟨f9, _, F9, F9.binds (ps := ["found", "due"]) (fun _ _ _ _ _ _ us hl => by refine us2 (P := fun us => bindArgs _ ⟨us, []⟩ = pure (List.zip _ us)) hl ?_; intros; rfl), PySem.W.mg_of X G a9⟩
  have F10 := fun_mk (st := sTold) l10 c10 k10
  have D10 : Def K mg "_law_told" sTold ["book", "words", "place", "ends"] := ⟨f10, _, F10, F10.binds (ps := ["book", "words", "place", "ends"]) (fun _ _ _ _ _ _ us hl => by refine us4 (P := fun us => bindArgs _ ⟨us, []⟩ = pure (List.zip _ us)) hl ?_; intros; rfl), PySem.W.mg_of X G a10⟩
  have F11 := fun_mk (st := sTerm) l11 c11 k11
  have D11 : Def K mg "_law_term" sTerm ["deck", "names", "most"] := ⟨f11, _, F11, F11.binds (ps := ["deck", "names", "most"]) (fun _ _ _ _ _ _ us hl => by refine us3 (P := fun us => bindArgs _ ⟨us, []⟩ = pure (List.zip _ us)) hl ?_; intros; rfl), PySem.W.mg_of X G a11⟩
  have F12 := fun_mk (st := sShape) l12 c12 k12
  have D12 : Def K mg "_law_shape" sShape ["deck", "kinds"] := ⟨f12, _, F12, F12.binds (ps := ["deck", "kinds"]) (fun _ _ _ _ _ _ us hl => by refine us2 (P := fun us => bindArgs _ ⟨us, []⟩ = pure (List.zip _ us)) hl ?_; intros; rfl), PySem.W.mg_of X G a12⟩
  have F13 := fun_mk (st := sFilled) l13 c13 k13
  have D13 : Def K mg "_law_filled" sFilled ["deck", "book", "rule", "names"] := ⟨f13, _, F13, F13.binds (ps := ["deck", "book", "rule", "names"]) (fun _ _ _ _ _ _ us hl => by refine us4 (P := fun us => bindArgs _ ⟨us, []⟩ = pure (List.zip _ us)) hl ?_; intros; rfl), PySem.W.mg_of X G a13⟩
  have F14 := fun_mk (st := sDeeds) l14 c14 k14
  have D14 : Def K mg "_law_deeds" sDeeds ["kinds", "shape"] := ⟨f14, _, F14, F14.binds (ps := ["kinds", "shape"]) (fun _ _ _ _ _ _ us hl => by refine us2 (P := fun us => bindArgs _ ⟨us, []⟩ = pure (List.zip _ us)) hl ?_; intros; rfl), PySem.W.mg_of X G a14⟩
  have F15 := fun_mk (st := sBook) l15 c15 k15
  have D15 : Def K mg "_law_book" sBook ["deck", "names"] := ⟨f15, _, F15, F15.binds (ps := ["deck", "names"]) (fun _ _ _ _ _ _ us hl => by refine us2 (P := fun us => bindArgs _ ⟨us, []⟩ = pure (List.zip _ us)) hl ?_; intros; rfl), PySem.W.mg_of X G a15⟩
  have F16 := fun_mk (st := sNames) l16 c16 k16
  have D16 : Def K mg "_law_names" sNames ["deck"] := ⟨f16, _, F16, F16.binds (ps := ["deck"]) (fun _ _ _ _ _ _ us hl => by refine us1 (P := fun us => bindArgs _ ⟨us, []⟩ = pure (List.zip _ us)) hl ?_; intros; rfl), PySem.W.mg_of X G a16⟩
  have F17 := fun_mk (st := sLaw) l17 c17 k17
  refine ⟨PySem.W.fnOf "law" "law" (defArgs sLaw) (defBody sLaw) (defScope sLaw) .none kV17 dc17 pm17 an17 cd17 ct17, fun s v => .of_eq rfl, fun base _ _ => ?_⟩
  have H0 : Has l.prog w K mg base 1 "how_many_below" ["word"] spHow := hasHow (k := 0) G0   D0
  have H1 : Has l.prog w K mg base 2 "place_behind" ["words", "place"] (spBehind K) := hasBehind (k := 1) G0 (H0.up (by decide))  D1
  have H2 : Has l.prog w K mg base 1 "leaf_letter" ["word", "kinds"] (spLeaf K) := hasLeaf (k := 0) G0   D2
  have H3 : Has l.prog w K mg base 2 "lies_upon" ["letter", "shape_word", "word"] spLies := hasLies (k := 1) G0 (H0.up (by decide))  D3
  have H4 : Has l.prog w K mg base 3 "laid" ["shape", "kinds", "words", "place"] (spLaid K) := hasLaid (k := 2) G0 (H2.up (by decide)) (H3.up (by decide)) (H1.up (by decide))  D4
  have H5 : Has l.prog w K mg base 4 "fit" ["book", "rule", "words", "place"] spFit := hasFit (k := 3) G0 (H4.up (by decide))  D5
  have H6 : Has l.prog w K mg base 1 "_law_next" ["deck"] spNext := hasNext (k := 0) G0   D6
  have H7 : Has l.prog w K mg base 1 "_law_ends" ["words"] (spEnds K) := hasEnds (k := 0) G0   D7
  have H8 : Has l.prog w K mg base 1 "_law_laid" ["kinds", "shape", "words", "ends", "place"] (spLLaid K) := hasLLaid (k := 0) G0   D8
  have H9 : Has l.prog w K mg base 4 "_law_same" ["found", "due"] spSame2 := hasSame (k := 0) G0   D9
  have H10 : Has l.prog w K mg base 5 "_law_told" ["book", "words", "place", "ends"] spTold := hasTold (k := 4) G0 (H8.up (by decide)) (H9.up (by decide)) (H5.up (by decide))  D10
  have H11 : Has l.prog w K mg base 2 "_law_term" ["deck", "names", "most"] spTermT := hasTerm (k := 1) G0 (H6.up (by decide))  D11
  have H12 : Has l.prog w K mg base 2 "_law_shape" ["deck", "kinds"] spShape := hasShape (k := 1) G0 (H6.up (by decide))  D12
  have H13 : Has l.prog w K mg base 3 "_law_filled" ["deck", "book", "rule", "names"] spFilled := hasFilled (k := 2) G0 (H6.up (by decide)) (H11.up (by decide))  D13
  have H14 : Has l.prog w K mg base 1 "_law_deeds" ["kinds", "shape"] (spDeeds K) := hasDeeds (k := 0) G0   D14
  have H15 : Has l.prog w K mg base 3 "_law_book" ["deck", "names"] spBook := hasBook (k := 2) G0 (H14.up (by decide)) (H6.up (by decide)) (H12.up (by decide))  D15
  have H16 : Has l.prog w K mg base 2 "_law_names" ["deck"] spNamesD := hasNames (k := 1) G0 (H6.up (by decide))  D16
  exact hasLaw (k := 5) G0 (H15.up (by decide)) (H7.up (by decide)) (H13.up (by decide)) (H16.up (by decide)) (H6.up (by decide)) (H11.up (by decide)) (H10.up (by decide)) (H5.up (by decide))  F17
theorem walk {l : PySem.W.OpenLaw} {q : Program} {loose : List Str} {XP : (Str → Option Value) → Heap → Prop} {YP : World → Heap → Prop} {d : DefRec} {K : Params → PySem.W.Frag} (hn : l.most = some 63) (hdf : d.params.defaults = [])
    (hY : ∀ (w : World) (h : Heap), YP w h → (K w.params).In h)
    (F : ∀ (w : World) (mg : Str → Option Value) (fa : Addr) (h : Heap), (K w.params).In h → h.Ns mainGlobals mg → mg d.name = some (.ref fa) →
      ∃ fd : FuncData, (∀ (s : Shared) (u : Value), BindsTo s fd ⟨[u], []⟩ [("script", u)]) ∧ ∀ base : Heap, (K w.params).In base → base.Ns mainGlobals mg → FnOk l.prog w (K w.params) mg base CX0 6 fa fd ["script"] (spLaw (K w.params))) :
    PySem.W.WalkO q loose XP YP l.row.toRowW d [] (fun f vs => PySem.call f vs) :=
  L2.walk_of (n := 63) (k := 6) (x := "script") (CX := fun _ => CX0) (sp := fun w => spLaw (K w.params)) hn (by decide) hdf ⟨rfl, by decide, by decide⟩ hY F (fun _ _ a ns hl _ hS => ⟨a, ns, rfl, hS, hl, fun _ => rfl⟩) fun _ _ _ _ _ z => z
end K41
open PySem PySem.W PyProof.Rows
set_option maxRecDepth 100000 in
set_option maxHeartbeats 0 in
theorem PySem.Challenge.cw_pricecover_k41_fit_holds : PySem.Challenge.rw_pricecover_k41_fit.Holds := by
  w_on; o_law; k_head; (case hw => w_witness2)
  k_fill
  refine K41.walk (l := PySem.Challenge.rw_pricecover_k41_fit) rfl rfl (fun w h Y => PySem.W.kIn_of Y) ?F
  case F =>
    intro w mg fa h KX G hmg
    refine' K41.all_mk KX G hmg ?a0 ?l0 ?c0 ?k0 ?a1 ?l1 ?c1 ?k1 ?a2 ?l2 ?c2 ?k2 ?a3 ?l3 ?c3 ?k3 ?a4 ?l4 ?c4 ?k4 ?a5 ?l5 ?c5 ?k5 ?a6 ?l6 ?c6 ?k6 ?a7 ?l7 ?c7 ?k7 ?a8 ?l8 ?c8 ?k8 ?a9 ?l9 ?c9 ?k9 ?a10 ?l10 ?c10 ?k10 ?a11 ?l11 ?c11 ?k11 ?a12 ?l12 ?c12 ?k12 ?a13 ?l13 ?c13 ?k13 ?a14 ?l14 ?c14 ?k14 ?a15 ?l15 ?c15 ?k15 ?a16 ?l16 ?c16 ?k16 ?a17 ?l17 ?c17 ?k17 ?z0 ?z1 ?z2 ?z3 ?z4 ?z5 ?z6 ?z7 ?z8 ?z9 ?y0 ?x0 ?hh0x0 ?hh0x1 ?hh0x2 ?hh0x3 ?ha0
    (case a0 => k_is)
    (case l0 => k_is)
    (case c0 => k_is)
    (case k0 => k_is)
    (case a1 => k_is)
    (case l1 => k_is)
    (case c1 => k_is)
    (case k1 => k_is)
    (case a2 => k_is)
    (case l2 => k_is)
    (case c2 => k_is)
    (case k2 => k_is)
    (case a3 => k_is)
    (case l3 => k_is)
    (case c3 => k_is)
    (case k3 => k_is)
    (case a4 => k_is)
    (case l4 => k_is)
    (case c4 => k_is)
    (case k4 => k_is)
    (case a5 => k_is)
    (case l5 => k_is)
    (case c5 => k_is)
    (case k5 => k_is)
    (case a6 => k_is)
    (case l6 => k_is)
    (case c6 => k_is)
    (case k6 => k_is)
    (case a7 => k_is)
    (case l7 => k_is)
    (case c7 => k_is)
    (case k7 => k_is)
    (case a8 => k_is)
    (case l8 => k_is)
    (case c8 => k_is)
    (case k8 => k_is)
    (case a9 => k_is)
    (case l9 => k_is)
    (case c9 => k_is)
    (case k9 => k_is)
    (case a10 => k_is)
    (case l10 => k_is)
    (case c10 => k_is)
    (case k10 => k_is)
    (case a11 => k_is)
    (case l11 => k_is)
    (case c11 => k_is)
    (case k11 => k_is)
    (case a12 => k_is)
    (case l12 => k_is)
    (case c12 => k_is)
    (case k12 => k_is)
    (case a13 => k_is)
    (case l13 => k_is)
    (case c13 => k_is)
    (case k13 => k_is)
    (case a14 => k_is)
    (case l14 => k_is)
    (case c14 => k_is)
    (case k14 => k_is)
    (case a15 => k_is)
    (case l15 => k_is)
    (case c15 => k_is)
    (case k15 => k_is)
    (case a16 => k_is)
    (case l16 => k_is)
    (case c16 => k_is)
    (case k16 => k_is)
    (case a17 => k_is)
    (case l17 => k_is)
    (case c17 => k_is)
    (case k17 => k_is)
    (case z0 => k_is)
    (case z1 => k_is)
    (case z2 => k_is)
    (case z3 => k_is)
    (case z4 => k_is)
    (case z5 => k_is)
    (case z6 => k_is)
    (case z7 => k_is)
    (case z8 => k_is)
    (case z9 => k_is)
    (case y0 => k_is)
    (case x0 => k_is)
    (case hh0x0 => first | rfl | k_is)
    (case hh0x1 => first | rfl | k_is)
    (case hh0x2 => first | rfl | k_is)
    (case hh0x3 => first | rfl | k_is)
    (case ha0 => first | rfl | decide | k_is)
#print axioms PySem.Challenge.cw_pricecover_k41_fit_holds
