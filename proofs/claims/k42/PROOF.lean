import PyProof.Rows.All
import Wide.All
import OpenK.AllK
import Wide.FinOn
import Lean
import PyProof.EqAt
import PyProof.EqKinds
import PyProof.TupleCall
import KE.KSortTup
import PyProof.EnumMake
import PyProof.EnumStmt
import PyProof.ListRange
import PyProof.Rows.SortPure
import PyProof.Rows.SortRuns
import KE.KDictList
import KE.KRevIter
import PyProof.DictItems
import PyProof.ZipIter
import PyProof.DictUpdate
import PyProof.TupleIter
import PyProof.ListNew
import PyProof.Rows.ZipGen
import PyProof.AttrMiss
import PyProof.FactsAll.dict_1
import PyProof.AttrMissHeap
import KE.KDictOf
import PyProof.Rows.SetFrom
import PyProof.Rows.Range3
import PyProof.DictIter
import PyProof.Rows.TupDisplay
import PySem.Challenge.RW_pricecover_k42_prices
set_option Elab.async false
set_option bootstrap.genMatcherCode false
set_option linter.all false
set_option maxRecDepth 100000
set_option maxHeartbeats 4000000
namespace L2
open PySem PySem.Spec PyProof.Rows
abbrev Key:=Sum Int Str
noncomputable def xl:Key→Value→Bool
 | .inl k,v=>Value.isInt k v
 | .inr x,v=>Value.isStrOf x v
noncomputable def keyH (w:World):Key→Int
 | .inl k=>hashInt k
 | .inr x=>hashStr w x
theorem cj:∀{k:Key} {v:Value},xl k v=true→(∃i t,k=Sum.inl i∧v=Value.int i t)∨(∃x t,k=Sum.inr x∧v=Value.str x t)
 | .inl i,v,h=>by
  obtain ⟨t,e⟩:=Value.isInt_shape (k:=i) (v:=v) h
  exact .inl ⟨i,t,rfl,e⟩
 | .inr x,v,h=>by
  obtain ⟨t,e⟩:=Value.isStrOf_shape (x:=x) (v:=v) h
  exact .inr ⟨x,t,rfl,e⟩
theorem Ge (i:Int) (t:Tok):xl (.inl i) (.int i t)=true:=by simp [xl,Value.isInt]
theorem Gh (x:Str) (t:Tok):xl (.inr x) (.str x t)=true:=by simp [xl,Value.isStrOf]
theorem key_ll (a b:Int):decide ((Sum.inl a:Key)=Sum.inl b)=(a==b):=by
 by_cases e:a=b
 ·subst e;simp
 ·have h:¬(Sum.inl a:Key)=Sum.inl b:=fun q=>e (Sum.inl.inj q)
  rw [decide_eq_false h]
  exact (beq_eq_false_iff_ne.mpr e).symm
theorem key_rr (a b:Str):decide ((Sum.inr a:Key)=Sum.inr b)=decide (a=b):=by
 by_cases e:a=b
 ·subst e;simp
 ·have h:¬(Sum.inr a:Key)=Sum.inr b:=fun q=>e (Sum.inr.inj q)
  rw [decide_eq_false h,decide_eq_false e]
theorem key_lr (a:Int) (b:Str):decide ((Sum.inl a:Key)=Sum.inr b)=false:=decide_eq_false (fun q=>nomatch q)
theorem key_rl (a:Str) (b:Int):decide ((Sum.inr a:Key)=Sum.inl b)=false:=decide_eq_false (fun q=>nomatch q)
noncomputable def bh (prog:Program) (w:World):PySem.KeyKind prog w Key where
 is:=xl
 hash:=keyH w
 inj:=fun v a b ha hb=>by
  rcases cj ha with ⟨i,t,rfl,rfl⟩ | ⟨x,t,rfl,rfl⟩
  ·rcases cj hb with ⟨j,u,rfl,e⟩ | ⟨y,u,rfl,e⟩
   ·injection e with e1 _;rw [e1]
   ·exact nomatch e
  ·rcases cj hb with ⟨j,u,rfl,e⟩ | ⟨y,u,rfl,e⟩
   ·exact nomatch e
   ·injection e with e1 _;rw [e1]
 byValue:=fun k v h=>by
  rcases cj h with ⟨i,t,rfl,rfl⟩ | ⟨x,t,rfl,rfl⟩ <;> rfl
 pyHash:=fun hv h=>by
  rcases cj hv with ⟨i,t,rfl,rfl⟩ | ⟨x,t,rfl,rfl⟩
  ·exact wpAny_pyHash_int h
  ·exact wpAny_pyHash_str h
 eqBool:=fun hu hv h=>by
  rcases cj hu with ⟨i,t,rfl,rfl⟩ | ⟨x,t,rfl,rfl⟩
  ·rcases cj hv with ⟨j,u,rfl,rfl⟩ | ⟨y,u,rfl,rfl⟩
   ·rw [key_ll] at h;exact wpAny_eqBool_int h
   ·rw [key_lr] at h;exact SeqAt.EqAt.int_str i t y u _ _ _ _ h
  ·rcases cj hv with ⟨j,u,rfl,rfl⟩ | ⟨y,u,rfl,rfl⟩
   ·rw [key_rl] at h;exact SeqAt.EqAt.str_int x t j u _ _ _ _ h
   ·rw [key_rr] at h;exact wpAny_eqBool_str h
 «strs»:=fun k x t v h=>by
  rcases cj h with ⟨i,u,rfl,e⟩ | ⟨y,u,rfl,e⟩
  ·exact nomatch e
  ·injection e with e1 _
   subst e1
   cases v <;> rfl
theorem Bc (prog:Program) (w:World) (i:Int) (t:Tok):(bh prog w).is (.inl i) (.int i t)=true:=Ge i t
theorem jz (prog:Program) (w:World) (x:Str) (t:Tok):(bh prog w).is (.inr x) (.str x t)=true:=Gh x t
end L2
namespace L2
open PySem PySem.Spec PyProof.Rows
inductive V where
 | non | bl (b:Bool) | int (i:Int) | str (x:Str) | byt (b:Array UInt8) | flt (b:UInt64) | ref (a:Addr) | ty (n:String)
 deriving DecidableEq
def RelV:V→Value→Prop
 | .non,u=>u=Value.none
 | .bl b,u=>u=Value.bool b
 | .int i,u=>∃t,u=Value.int i t
 | .str x,u=>∃t,u=Value.str x t
 | .byt b,u=>∃t,u=Value.bytes b t
 | .flt b,u=>∃t,u=Value.float b t
 | .ref a,u=>u=Value.ref a
 | .ty n,u=>u=Value.type n
abbrev Vals:List V→List Value→Prop:=Paired RelV
theorem Vals.length {xs:List V} {us:List Value} (r:Vals xs us):xs.length=us.length:=Paired.length r
theorem Vals.get:∀{xs:List V} {us:List Value} {i:Nat} {x:V},Vals xs us→xs[i]?=some x→∃u,us[i]?=some u∧RelV x u
 | _,_,_,_,.nil,e=>by simp at e
 | _,_,0,_,.cons r _,e=>by simp at e;subst e;exact ⟨_,rfl,r⟩
 | _,_,i+1,x,.cons _ t,e=>by
  obtain ⟨u,h1,h2⟩:=Vals.get (i:=i) (x:=x) t (by simpa using e)
  exact ⟨u,by simpa using h1,h2⟩
theorem Vals.set {x:V} {u:Value} (r:RelV x u):∀{xs:List V} {us:List Value} (i:Nat),Vals xs us→Vals (xs.set i x) (us.set i u)
 | _,_,_,.nil=>.nil
 | _,_,0,.cons _ t=>.cons r t
 | _,_,i+1,.cons q t=>.cons q (Vals.set r i t)
theorem Vals.append:∀{xs ys:List V} {us ws:List Value},Vals xs us→Vals ys ws→Vals (xs++ys) (us++ws)
 | _,_,_,_,.nil,s=>s
 | _,_,_,_,.cons r t,s=>.cons r (Vals.append t s)
theorem Vals.take:∀{xs:List V} {us:List Value} (n:Nat),Vals xs us→Vals (xs.take n) (us.take n)
 | _,_,0,_=>.nil
 | _,_,_+1,.nil=>.nil
 | _,_,n+1,.cons r t=>.cons r (Vals.take n t)
theorem Vals.drop:∀{xs:List V} {us:List Value} (n:Nat),Vals xs us→Vals (xs.drop n) (us.drop n)
 | _,_,0,r=>r
 | _,_,_+1,.nil=>.nil
 | _,_,n+1,.cons _ t=>Vals.drop n t
def mf:Option V→Option Value→Prop
 | some v,some u=>RelV v u
 | none,none=>True
 | _,_=>False
def KV {κ:Type}:List (κ×V)→List (κ×Value)→Prop:=Paired fun (p:κ×V) (q:κ×Value)=>p.1=q.1∧RelV p.2 q.2
noncomputable def kV:Key→V
 | .inl i=>.int i
 | .inr x=>.str x
inductive HO where
  | lst (xs:List V)
  | tup (xs:List V)
  | dK (kvs:List (Key×V)) | dT (kvs:List (List Key×V))
  | set (S:Int→Bool) (n:Nat)
  | ins (C dx:Addr) (fs:List (Str×V))
  | own (x:Addr)
  | xd (fs:List (Str×V))
  | met (f x:Addr)
  | rng (lo hi:Int)
  | frz (o:Obj) (u:HO)
  | tbl (ps:Array Value)
  | ext (φ:Heap→Prop)
abbrev Hp:=Addr→Option HO
noncomputable def upd (H:Hp) (a:Addr) (o:HO):Hp:=fun b=>if b=a then some o else H b
theorem ae {H:Hp} {a:Addr} {o:HO}:upd H a o a=some o:=by unfold upd;rw [if_pos rfl]
theorem af {H:Hp} {a b:Addr} {o:HO} (h:b≠a):upd H a o b=H b:=by unfold upd;rw [if_neg h]
theorem ee {H:Hp} {a b:Addr} {o u:HO} (h:H a=some o) (h':H b=some u) (d:o≠u):a≠b:=by
 intro e;subst e;rw [h] at h';exact d (Option.some.inj h')
theorem ag {H:Hp} {a b:Addr} {o:HO} (h:H a=some o) (h':H b=none):a≠b:=by
 intro e;subst e;rw [h] at h';cases h'
section
variable (P:Program) (w:World)
def Ca (h:Heap) (a:Addr) (its:Array Value):Prop:=∃o,h.get? a=some o∧o.cls=.type "tuple"∧∃n,o.data=.seq its n∧o.dict=none
theorem Ca.tup {h:Heap} {a:Addr} {its:Array Value} (x:Ca h a its):IsTup h a its:=let ⟨o,h1,h2,n,h3,_⟩:=x;⟨o,h1,h2,n,h3⟩
def bp (H:Hp) (h:Heap) (a:Addr):HO→Prop
 | .lst xs=>xs.length≤sizeLine∧∃(its:List Value) (n:Nat),Vals xs its∧h.get? a=some { cls:=.type "list",data:=.seq its.toArray n }
 | .tup xs=>xs.length≤sizeLine∧∃its:List Value,Vals xs its∧Ca h a its.toArray
 | .dK kvs=>kvs.length≤sizeLine∧(a==sysModules)=false∧∃vs,KV kvs vs∧h.DictOf (bh P w) a vs
 | .dT kvs=>kvs.length≤sizeLine∧(a==sysModules)=false∧∃xs:List (List Key×Addr×Value),
   Paired (fun (p:List Key×V) (q:List Key×Addr×Value)=>p.1=q.1∧H q.2.1=some (.tup (p.1.map kV))∧RelV p.2 q.2.2) kvs xs∧
   ∃o es ep,h.get? a=some o∧o.ExactDict∧o.data=.dict es ep∧es.toList=xs.map (entryOfKey (tupleKind (bh P w)))∧(xs.map (·.1)).Nodup
 | .set S n=>h.SetOf (intKind P w) a S n
 | .ins C dx fs=>H dx=some (.own a)∧fs.length≤1000∧dx≠a∧h.get? a=some (PySem.W.instObj C dx)∧
   ∃mA,h.Ns1 dx mA∧(∀f,mf (fs.lookup f) (mA f))∧PySem.Within mA (fs.map (·.1))
 | .own _=>∃o,h.get? a=some o
 | .xd fs=>∃mA,h.Ns1 a mA∧∀f,mf (fs.lookup f) (mA f)
 | .rng lo hi=>∃t u v,h.get? a=some { cls:=.type "range",data:=.fields #[.int lo t,.int hi u,.int 1 v] }
 | .frz o u=>h.get? a=some o∧bp H h a u
 | .tbl ps=>h.get? a=some { cls:=.none,data:=.fields ps }
 | .met f x=>h.get? a=some (PySem.W.methodObj (.ref f) (.ref x))
 | .ext φ=>φ h∧(∃o,h.get? a=some o)∧∀h1 h2:Heap,φ h1→(∀o,h1.get? a=some o→h2.get? a=some o)→φ h2
def HOk (H:Hp) (h:Heap):Prop:=∀a o,H a=some o→bp P w H h a o
end
section
variable {P:Program} {w:World} {H H':Hp} {h h':Heap} {a:Addr} {o:HO}
theorem bp.lt (x:bp P w H h a o):a < h.objs.size:=by
 cases o with
 | lst xs=>obtain ⟨_,_,_,_,e⟩:=x;exact Heap.lt_size e
 | tup xs=>obtain ⟨_,_,_,p⟩:=x;exact p.tup.lt
 | dK kvs=>obtain ⟨_,_,_,_,o,_,_,e,_⟩:=x;exact Heap.lt_size e
 | dT kvs=>obtain ⟨_,_,_,_,o,_,_,e,_⟩:=x;exact Heap.lt_size e
 | set S n=>obtain ⟨o,_,_,_,e,_⟩:=x;exact Heap.lt_size e
 | ins C dx fs=>obtain ⟨_,_,_,e,_⟩:=x;exact Heap.lt_size e
 | own y=>obtain ⟨_,e⟩:=x;exact Heap.lt_size e
 | xd fs=>obtain ⟨_,⟨_,_,_,e,_⟩,_⟩:=x;exact Heap.lt_size e
 | rng lo hi=>obtain ⟨_,_,_,e⟩:=x;exact Heap.lt_size e
 | frz ob u=>obtain ⟨e,_⟩:=x;exact Heap.lt_size e
 | tbl ps=>exact Heap.lt_size (show h.get? a=some _ from x)
 | met f y=>exact Heap.lt_size (show h.get? a=some _ from x)
 | ext φ=>obtain ⟨_,⟨_,e⟩,_⟩:=x;exact Heap.lt_size e
theorem Paired.mapP {α β:Type} {F G:α→β→Prop}:∀{l₁:List α} {l₂:List β},Paired F l₁ l₂→(∀a b,F a b→G a b)→Paired G l₁ l₂
 | _,_,.nil,_=>.nil
 | _,_,.cons r t,f=>.cons (f _ _ r) (Paired.mapP t f)
theorem bp.yn (x:bp P w H h a o) (k:∀b u,(b=a∨H b=some (.own a))→h.get? b=some u→h'.get? b=some u)
  (ho:∀b,H b=some (.own a)→H' b=some (.own a)) (ht:∀b xs,H b=some (.tup xs)→H' b=some (.tup xs)):bp P w H' h' a o:=by
 induction o with
 | lst xs=>obtain ⟨z,its,n,r,e⟩:=x;exact ⟨z,its,n,r,k _ _ (.inl rfl) e⟩
 | tup xs=>obtain ⟨z,its,r,ob,e,c⟩:=x;exact ⟨z,its,r,ob,k _ _ (.inl rfl) e,c⟩
 | dK kvs=>obtain ⟨z,y,vs,r,ob,es,ep,e,c⟩:=x;exact ⟨z,y,vs,r,ob,es,ep,k _ _ (.inl rfl) e,c⟩
 | dT kvs=>
  obtain ⟨z,y,xs,r,ob,es,ep,e,c⟩:=x
  exact ⟨z,y,xs,Paired.mapP r fun p q z=>⟨z.1,ht _ _ z.2.1,z.2.2⟩,ob,es,ep,k _ _ (.inl rfl) e,c⟩
 | set S n=>obtain ⟨ob,es,ep,t,e,c⟩:=x;exact ⟨ob,es,ep,t,k _ _ (.inl rfl) e,c⟩
 | ins C dx fs=>
  obtain ⟨d,z,ne,e,mA,⟨od,es,ep,e2,c⟩,r⟩:=x
  exact ⟨ho _ d,z,ne,k _ _ (.inl rfl) e,mA,⟨od,es,ep,k _ _ (.inr d) e2,c⟩,r⟩
 | own y=>obtain ⟨ob,e⟩:=x;exact ⟨ob,k _ _ (.inl rfl) e⟩
 | xd fs=>obtain ⟨mA,⟨od,es,ep,e,c⟩,r⟩:=x;exact ⟨mA,⟨od,es,ep,k _ _ (.inl rfl) e,c⟩,r⟩
 | rng lo hi=>obtain ⟨t,u,v,e⟩:=x;exact ⟨t,u,v,k _ _ (.inl rfl) e⟩
 | frz ob u ih=>obtain ⟨e,q⟩:=x;exact ⟨k _ _ (.inl rfl) e,ih q⟩
 | tbl ps=>
  have e:h.get? a=some { cls:=.none,data:=.fields ps }:=x
  show h'.get? a=some { cls:=.none,data:=.fields ps }
  exact k a _ (.inl rfl) e
 | met f y=>
  have e:h.get? a=some (PySem.W.methodObj (.ref f) (.ref y)):=x
  show h'.get? a=some (PySem.W.methodObj (.ref f) (.ref y))
  exact k a _ (.inl rfl) e
 | ext φ=>obtain ⟨p,⟨o,e⟩,st⟩:=x;exact ⟨st _ _ p fun o q=>k _ _ (.inl rfl) q,⟨o,k _ _ (.inl rfl) e⟩,st⟩
theorem HOk.lt (x:HOk P w H h) (e:H a=some o):a < h.objs.size:=(x a o e).lt
theorem Kr {xs:List V} (x:HOk P w H h) (e:H a=some (.tup xs)):xs.length≤sizeLine∧∃its:List Value,Vals xs its∧IsTup h a its.toArray:=
 let ⟨z,its,r,p⟩:=x a _ e
 ⟨z,its,r,p.tup⟩
theorem HOk.fresh (x:HOk P w H h) (e:h.objs.size≤a):H a=none:=by
 cases q:H a with
 | none=>rfl
 | some u=>exact absurd (Nat.lt_of_lt_of_le (x.lt q) e) (Nat.lt_irrefl _)
theorem HOk.kept (x:HOk P w H h) (k:∀b u,h.get? b=some u→h'.get? b=some u):HOk P w H h':=fun a o e=>
 (x a o e).yn (fun b u _ q=>k b u q) (fun _ q=>q) fun _ _ q=>q
theorem HOk.laid (x:HOk P w H h) (k:∀b u,h.get? b=some u→h'.get? b=some u) (hp:h.objs.size≤a) (new:bp P w (upd H a o) h' a o):HOk P w (upd H a o) h':=fun b u e=>by
 have hn:=x.fresh hp
 by_cases hb:b=a
 ·subst hb;rw [ae] at e;cases e;exact new
 ·rw [af hb] at e
  exact (x b u e).yn (fun c v _ q=>k c v q) (fun c q=>by rw [af (ag q hn)];exact q) fun c xs q=>by rw [af (ag q hn)];exact q
end
def Rd (H:Hp) (a:Addr) (u:HO):Prop:=H a=some u∨∃o,H a=some (.frz o u)
theorem Rd.ok {P:Program} {w:World} {H:Hp} {h:Heap} {a:Addr} {u:HO} (r:Rd H a u) (x:HOk P w H h):bp P w H h a u:=by
 rcases r with r | ⟨o,r⟩
 ·exact x a u r
 ·obtain ⟨_,q⟩:=x a _ r
  exact q
def Mut:Option HO→Prop
 | some (.lst _)=>True
 | some (.dK _)=>True
 | some (.dT _)=>True
 | some (.set _ _)=>True
 | some (.ins _ _ _)=>True
 | some (.ext _)=>True
 | _=>False
section
variable {P:Program} {w:World} {H:Hp} {h h':Heap} {x e:Addr} {o':HO}
theorem HOk.write (ok:HOk P w H h) (mu:Mut (H x)) (he:e=x∨H e=some (.own x)) (k:∀b u,b≠e→h.get? b=some u→h'.get? b=some u) (heo:∃u,h'.get? e=some u)
  (new:bp P w (upd H x o') h' x o'):HOk P w (upd H x o') h':=fun b u q=>by
 have nown:∀c y,H c=some (.own y)→c≠x:=fun c y r z=>by subst z;rw [r] at mu;exact mu
 have ntup:∀c xs,H c=some (.tup xs)→c≠x:=fun c xs r z=>by subst z;rw [r] at mu;exact mu
 by_cases hb:b=x
 ·subst hb;rw [ae] at q;cases q;exact new
 ·rw [af hb] at q
  by_cases hbe:b=e
  ·have q':H b=some (.own x):=by
    rcases he with z | z
    ·exact absurd (hbe.trans z) hb
    ·rw [hbe];exact z
   rw [q] at q';cases q'
   obtain ⟨v,hv⟩:=heo
   exact ⟨v,by rw [hbe];exact hv⟩
  ·refine (ok b u q).yn (fun c v hc r=>k c v ?_ r) (fun c r=>by rw [af (nown c b r)];exact r) fun c xs r=>by rw [af (ntup c xs r)];exact r
   rcases hc with rfl | hc
   ·exact hbe
   ·rintro rfl
    rcases he with z | z
    ·exact nown c b hc z
    ·rw [hc] at z;cases z;exact hb rfl
end
structure Un (fs ex:List Addr) (H H':Hp) (h h':Heap):Prop where
 keep:∀b o,h.get? b=some o→H b=none→b∉fs→b∉ex→h'.get? b=some o
 slot:∀b o,h.get? b=some o→H b=none→b∈fs→b∉ex→∃sl,h'.get? b=some { o with slots:=sl }
 free:∀b o,h.get? b=some o→H b=none→b∉ex→H' b=none
 there:∀b o,h.get? b=some o→b∉ex→∃o',h'.get? b=some o'
 tups:∀b xs,H b=some (.tup xs)→H' b=some (.tup xs)
 frzs:∀b o u,H b=some (.frz o u)→H' b=some (.frz o u)
 tbls:∀b ps,H b=some (.tbl ps)→∃more,H' b=some (.tbl (ps++more))
section
variable {fs fs' ex ex':List Addr} {H H1 H2:Hp} {h h1 h2 h':Heap} {a x e:Addr} {o:HO}
theorem Un.any (u:Un fs ex H H1 h h1) {b:Addr} {ob:Obj} (q:h.get? b=some ob) (n:H b=none) (hx:b∉ex):∃sl,h1.get? b=some { ob with slots:=sl }:=by
 by_cases hb:b∈fs
 ·exact u.slot b ob q n hb hx
 ·exact ⟨ob.slots,u.keep b ob q n hb hx⟩
theorem Un.kept (k:∀b u,h.get? b=some u→h'.get? b=some u):Un fs ex H H h h':=
 ⟨fun b ob q _ _ _=>k b ob q,fun b ob q _ _ _=>⟨ob.slots,k b ob q⟩,fun _ _ _ n _=>n,fun b ob q _=>⟨ob,k b ob q⟩,fun _ _ q=>q,fun _ _ _ q=>q,fun _ ps q=>⟨#[],by rw [q];simp⟩⟩
theorem Un.refl:Un fs ex H H h h:=Un.kept fun _ _ q=>q
theorem Un.laid (k:∀b u,h.get? b=some u→h'.get? b=some u) (hp:h.objs.size≤a) (hn:H a=none):Un fs ex H (upd H a o) h h' where
 keep:=fun b u q _ _ _=>k b u q
 slot:=fun b u q _ _ _=>⟨u.slots,k b u q⟩
 free:=fun b u q n _=>by rw [af (Nat.ne_of_lt (Nat.lt_of_lt_of_le (Heap.lt_size q) hp))];exact n
 there:=fun b u q _=>⟨u,k b u q⟩
 tups:=fun b xs q=>by rw [af (ag q hn)];exact q
 frzs:=fun b u xs q=>by rw [af (ag q hn)];exact q
 tbls:=fun b ps q=>⟨#[],by rw [af (ag q hn),q];simp⟩
theorem Un.write (mu:Mut (H x)) (he:e=x∨H e=some (.own x)) (k:∀b u,b≠e→h.get? b=some u→h'.get? b=some u) (heo:∃u,h'.get? e=some u):Un fs ex H (upd H x o) h h':=by
 have hx:∀b,H b=none→b≠x:=fun b n z=>by subst z;rw [n] at mu;exact mu
 have hb:∀b,H b=none→b≠e:=fun b n z=>by
  subst z
  rcases he with r | r
  ·exact hx b n r
  ·rw [n] at r;cases r
 have hm:∀b u,H b=some u→¬Mut (some u)→b≠x:=fun b u q nm z=>by subst z;rw [q] at mu;exact nm mu
 refine ⟨fun b u q n _ _=>k b u (hb b n) q,fun b u q n _ _=>⟨u.slots,k b u (hb b n) q⟩,fun b u q n _=>by rw [af (hx b n)];exact n,fun b u q _=>?_,
  fun b xs q=>by rw [af (hm b _ q fun z=>z)];exact q,fun b u xs q=>by rw [af (hm b _ q fun z=>z)];exact q,fun b ps q=>⟨#[],by rw [af (hm b _ q fun z=>z),q];simp⟩⟩
 by_cases hbe:b=e
 ·subst hbe;exact heo
 ·exact ⟨u,k b u hbe q⟩
end
noncomputable def trk (h:Heap) (H:Hp):List Addr:=(List.range h.objs.size).filter fun a=>(H a).isSome
noncomputable def yk (h:Heap) (H:Hp):Heap:=PySem.W.hideAll h (trk h H)
theorem Fw (h:Heap) (H:Hp):(yk h H).objs.size=h.objs.size:=PySem.W.hideAll_size _ _
theorem J3 {h:Heap} {H:Hp} {b:Addr} {o:Obj} (e:h.get? b=some o) (n:H b=none):(yk h H).get? b=some o:=
 PySem.W.hideAll_get _ e fun hm=>by
  have q:(H b).isSome=true:=(List.mem_filter.mp hm).2
  rw [n] at q;simp at q
theorem Nh {h:Heap} {H:Hp} {b:Addr} {o:Obj} (e:(yk h H).get? b=some o):h.get? b=some o∧H b=none:=by
 have e':h.get? b=some o:=PySem.W.of_hideAll (trk h H) e
 refine ⟨e',?_⟩
 cases q:H b with
 | none=>rfl
 | some x=>
  have hm:b∈trk h H:=List.mem_filter.mpr ⟨List.mem_range.mpr (Heap.lt_size e'),by simp [q]⟩
  have z:(yk h H).get? b=none:=PySem.W.hideAll_none (trk h H) hm
  rw [z] at e;cases e
end L2
namespace L2
open PySem PySem.Spec PyProof.Rows
structure Mod (K:PySem.W.Frag) (mg:Str→Option Value) (base:Heap):Prop where
 kin:K.In base
 glob:base.Ns mainGlobals mg
 blt:∃mb,base.Ns builtinsNs mb∧∀x:Str,x≠"__name__"→mb x=bootBuiltins x
 nolimit:base.NoLimit
structure Cx where
 prog:Program
 w:World
 K:PySem.W.Frag
 mg:Str→Option Value
 base:Heap
 A:Around
 N:List Str
 s₀:Shared
 H₀:Hp
 env:Env
 outer:List Env
 stack:List Env
 ex:List Addr
 fn:Str→Bool
 calm:Bool
 pn:List (Addr×Obj)
 xe:Value→Shared→Prop
noncomputable def frs (l:List Env):List Addr:=l.filterMap (·.frame)
noncomputable abbrev Cx.fs (X:Cx):List Addr:=frs X.outer
def Vis (sc:Scope) (x:Str):Prop:=sc.names.lookup x=some .local∨sc.names.lookup x=some .cell∨sc.names.lookup x=some .free
def Loc (sc:Scope) (x:Str):Prop:=sc.names.lookup x=some .local∨sc.names.lookup x=some .cell
def Look (env:Env) (h:Heap) (m:Str→Option Value) (x:Str) (u:Value):Prop:=
 (env.kindOf x=some .local∧m x=some u)∨((env.kindOf x=some .cell∨env.kindOf x=some .free)∧∃c,env.cells.lookup x=some c∧h.IsCell c (some u))
structure Cx.Ok (X:Cx):Prop where
 mod:Mod X.K X.mg X.base
 kind:X.env.scope.kind=.function
 glob:X.env.globals=mainGlobals
 blt:X.env.builtins=builtinsNs
 above:X.s₀.heap.objs.size≤X.env.locals
 inj:∀x y c,X.env.cells.lookup x=some c→X.env.cells.lookup y=some c→x=y
 has:∀x,(X.env.kindOf x=some .cell∨X.env.kindOf x=some .free)→∃c,X.env.cells.lookup x=some c
 cab:∀x c,X.fn x=true→X.env.cells.lookup x=some c→X.s₀.heap.objs.size≤c
 hd:X.calm=true→X.A.handled=none
 frames:X.A.frames=some X.stack
 stk:X.stack=X.outer∨(X.stack=X.env::X.outer∧X.env.frame=some X.env.locals)
 exf:∀b∈X.ex,b≠X.env.locals∧∀x c,X.env.cells.lookup x=some c→c≠b
 bs:∀b o,X.base.get? b=some o→X.s₀.heap.get? b=some o∧X.H₀ b=none
 bsz:X.base.objs.size≤X.s₀.heap.objs.size
 noex:∀b o,X.base.get? b=some o→b∉X.ex
 exfs:∀b∈X.ex,b∉X.fs
 qk:X.s₀.heap.FunFrames X.base X.outer
 frf:∀b∈X.fs,X.H₀ b=none
structure Inv (X:Cx) (pins:List (Addr×Obj)) (σ:List (Option V)) (H:Hp) (s:Shared):Prop where
 ok:X.Ok
 os:s.os=X.s₀.os
 bare:AllBare s.gens
 base:Un X.fs X.ex X.H₀ H X.s₀.heap s.heap
 loc:∃m,s.heap.Ns X.env.locals m∧∀(i:Nat) (x:Str) (v:V),X.N[i]?=some x→σ[i]?=some (some v)→Vis X.env.scope x→∃u,RelV v u∧Look X.env s.heap m x u
 cell:∀x c,X.env.cells.lookup x=some c→∃v,s.heap.IsCell c v
 free:H X.env.locals=none
 freeC:∀x c,X.env.cells.lookup x=some c→H c=none
 pin:∀p∈X.pn++pins,s.heap.get? p.1=some p.2∧H p.1=none∧p.1≠X.env.locals∧p.1∉X.fs∧∀v,p.2.data≠.cell v
 hok:HOk X.prog X.w H s.heap
 len:σ.length=X.N.length
section
variable {X:Cx} {pins:List (Addr×Obj)} {σ:List (Option V)} {H H':Hp} {s:Shared} {h':Heap}
theorem Cx.Ok.nofr (ok:X.Ok) {b:Addr} {o:Obj} (e:X.base.get? b=some o):b∉X.fs:=fun hb=>by
 have:=(ok.qk.mem hb).1
 rw [e] at this;cases this
theorem Inv.bs (I:Inv X pins σ H s):∀b o,X.base.get? b=some o→s.heap.get? b=some o∧H b=none:=fun b o e=>
 ⟨I.base.keep b o (I.ok.bs b o e).1 (I.ok.bs b o e).2 (I.ok.nofr e) (I.ok.noex b o e),I.base.free b o (I.ok.bs b o e).1 (I.ok.bs b o e).2 (I.ok.noex b o e)⟩
theorem Inv.bk (I:Inv X pins σ H s):∀b o,X.base.get? b=some o→s.heap.get? b=some o:=fun b o e=>(I.bs b o e).1
theorem Inv.mod (I:Inv X pins σ H s):Mod X.K X.mg X.base:=I.ok.mod
theorem Inv.kIn (I:Inv X pins σ H s):X.K.In s.heap:=I.ok.mod.kin.keeps I.bk
theorem Inv.lt (I:Inv X pins σ H s):X.env.locals < s.heap.objs.size:=let ⟨_,hn,_⟩:=I.loc;hn.lt
theorem Inv.sz (I:Inv X pins σ H s):X.s₀.heap.objs.size≤s.heap.objs.size:=Nat.le_trans I.ok.above (Nat.le_of_lt I.lt)
theorem Inv.nofs (I:Inv X pins σ H s) {a:Addr} (h:s.heap.objs.size≤a):a∉X.fs:=fun hb=>by
 obtain ⟨_,o,ho,_⟩:=I.ok.qk.mem hb
 exact absurd (Nat.lt_of_lt_of_le (Heap.lt_size ho) (Nat.le_trans I.sz h)) (Nat.lt_irrefl _)
theorem Inv.cne (I:Inv X pins σ H s):∀x c,X.env.cells.lookup x=some c→c≠X.env.locals:=fun x c e z=>by
 obtain ⟨v,o,ho,hd⟩:=I.cell x c e
 obtain ⟨m,⟨o',es,ep,ho',hd',_⟩,_⟩:=I.loc
 rw [z,ho'] at ho;cases ho;rw [hd'] at hd;cases hd
theorem Inv.qk (I:Inv X pins σ H s):s.heap.FunFrames X.base X.outer:=by
 have all:∀(l:List Env),(∀b∈frs l,b∈X.fs)→X.s₀.heap.FunFrames X.base l→s.heap.FunFrames X.base l:=by
  intro l
  induction l with
  | nil=>intro _ _;trivial
  | cons env r ih=>
   intro hs hl
   obtain ⟨hk,⟨L,o,hf,hn,ho,hd⟩,hr⟩:=hl
   have hL:L∈X.fs:=hs L (by unfold frs;rw [List.filterMap_cons,hf];exact List.mem_cons_self)
   obtain ⟨sl,e⟩:=I.base.slot L o ho (I.ok.frf L hL) hL fun z=>I.ok.exfs L z hL
   exact ⟨hk,⟨L,_,hf,hn,e,hd⟩,ih (fun b hb=>hs b (by unfold frs;rw [List.filterMap_cons,hf];exact List.mem_cons_of_mem _ hb)) hr⟩
 exact all X.outer (fun _ hb=>hb) I.ok.qk
theorem Inv.stack (I:Inv X pins σ H s):s.heap.FunFrames X.base X.stack:=by
 rcases I.ok.stk with e | ⟨e,hf⟩
 ·rw [e];exact I.qk
 ·rw [e]
  obtain ⟨m,hn,_⟩:=I.loc
  refine .cons (by rw [I.ok.kind];decide) hf hn ?_ I.qk
  exact Heap.get?_none_of_le (Nat.le_trans I.ok.bsz I.ok.above)
theorem Inv.Dl (I:Inv X pins σ H s):∀b∈frs X.stack,b∈X.env.locals::X.fs:=fun b hb=>by
 rcases I.ok.stk with e | ⟨e,hf⟩
 ·rw [e] at hb;exact List.mem_cons_of_mem _ hb
 ·rw [e] at hb
  unfold frs at hb
  rw [List.filterMap_cons,hf] at hb
  exact hb
theorem Inv.Dq (I:Inv X pins σ H s):∀b∈frs X.stack,H b=none:=fun b hb=>by
 rcases List.mem_cons.mp (I.Dl b hb) with e | hb
 ·rw [e];exact I.free
 ·obtain ⟨_,o,ho,_⟩:=I.ok.qk.mem hb
  exact I.base.free b o ho (I.ok.frf b hb) fun z=>I.ok.exfs b z hb
theorem Inv.step {g':Array GenState} {t':Nat} {d':Drawn} {ch:List Addr} (I:Inv X pins σ H s)
  (hch:∀b∈ch,(b∈X.ex∨X.s₀.heap.objs.size≤b)∧b≠X.env.locals∧(∀x c,X.env.cells.lookup x=some c→c≠b)∧∀p∈X.pn++pins,p.1≠b)
  (keep:∀b o,b≠X.env.locals→b∉X.fs→b∉ch→s.heap.get? b=some o→H b=none→h'.get? b=some o)
  (slot:∀b o,b≠X.env.locals→b∈X.fs→b∉ch→s.heap.get? b=some o→H b=none→∃sl,h'.get? b=some { o with slots:=sl }) (free:∀b o,b∉ch→s.heap.get? b=some o→H b=none→H' b=none)
  (there:∀b o,b∉ch→s.heap.get? b=some o→∃o',h'.get? b=some o')
  (tups:∀b xs,H b=some (.tup xs)→H' b=some (.tup xs)) (frzs:∀b o u,H b=some (.frz o u)→H' b=some (.frz o u)) (tbls:∀b ps,H b=some (.tbl ps)→∃more,H' b=some (.tbl (ps++more)))
  (ns:∀m,s.heap.Ns X.env.locals m→h'.Ns X.env.locals m) (hok:HOk X.prog X.w H' h') (hg:AllBare g'):
  Inv X pins σ H' { s with heap:=h',gens:=g',drawn:=d',toks:=t' }:=by
 have neL:∀b o,X.s₀.heap.get? b=some o→b≠X.env.locals:=fun b o e=>Nat.ne_of_lt (Nat.lt_of_lt_of_le (Heap.lt_size e) I.ok.above)
 have neC:∀b o,X.s₀.heap.get? b=some o→b∉X.ex→b∉ch:=fun b o e hx hb=>by
  rcases (hch b hb).1 with z | z
  ·exact hx z
  ·exact absurd (Nat.lt_of_lt_of_le (Heap.lt_size e) z) (Nat.lt_irrefl _)
 have cellK:∀x c,X.env.cells.lookup x=some c→∀v,s.heap.IsCell c v→h'.IsCell c v:=fun x c e v ⟨o,ho,hd⟩=>by
  have nch:c∉ch:=fun z=>(hch c z).2.2.1 x c e rfl
  by_cases hc:c∈X.fs
  ·obtain ⟨sl,q⟩:=slot c o (I.cne x c e) hc nch ho (I.freeC x c e)
   exact ⟨_,q,hd⟩
  ·exact ⟨o,keep c o (I.cne x c e) hc nch ho (I.freeC x c e),hd⟩
 refine ⟨I.ok,I.os,hg,⟨fun b o e n hb hx=>?_,fun b o e n hb hx=>?_,fun b o e n hx=>?_,fun b o e hx=>?_,fun b xs e=>tups b xs (I.base.tups b xs e),fun b o xs e=>frzs b o xs (I.base.frzs b o xs e),fun b ps e=>?_⟩,?_,fun x c e=>?_,?_,fun x c e=>?_,fun p hp=>?_,hok,I.len⟩
 ·exact keep b o (neL b o e) hb (neC b o e hx) (I.base.keep b o e n hb hx) (I.base.free b o e n hx)
 ·obtain ⟨sl,e1⟩:=I.base.slot b o e n hb hx
  obtain ⟨sl',e2⟩:=slot b _ (neL b o e) hb (neC b o e hx) e1 (I.base.free b o e n hx)
  exact ⟨sl',e2⟩
 ·obtain ⟨o',e1⟩:=I.base.there b o e hx
  exact free b o' (neC b o e hx) e1 (I.base.free b o e n hx)
 ·obtain ⟨o',e1⟩:=I.base.there b o e hx
  exact there b o' (neC b o e hx) e1
 ·obtain ⟨m1,e1⟩:=I.base.tbls b ps e
  obtain ⟨m2,e2⟩:=tbls b _ e1
  exact ⟨m1++m2,by rw [e2,Array.append_assoc]⟩
 ·obtain ⟨m,hn,hl⟩:=I.loc
  refine ⟨m,ns m hn,fun i x v e1 e2 e3=>?_⟩
  obtain ⟨u,r,l⟩:=hl i x v e1 e2 e3
  refine ⟨u,r,?_⟩
  rcases l with l | ⟨k,c,e,z⟩
  ·exact .inl l
  ·exact .inr ⟨k,c,e,cellK x c e _ z⟩
 ·obtain ⟨v,z⟩:=I.cell x c e
  exact ⟨v,cellK x c e v z⟩
 ·obtain ⟨m,⟨o,_,_,ho,_⟩,_⟩:=I.loc
  exact free _ o (fun z=>(hch _ z).2.1 rfl) ho I.free
 ·obtain ⟨v,o,ho,hd⟩:=I.cell x c e
  exact free c o (fun z=>(hch c z).2.2.1 x c e rfl) ho (I.freeC x c e)
 ·obtain ⟨e,n,ne,nf,d⟩:=I.pin p hp
  have nch:p.1∉ch:=fun z=>(hch p.1 z).2.2.2 p hp rfl
  exact ⟨keep p.1 p.2 ne nf nch e n,free p.1 p.2 nch e n,ne,nf,d⟩
theorem Inv.un {t':Nat} (I:Inv X pins σ H s) (u:Un X.fs [] H H' s.heap h') (hok:HOk X.prog X.w H' h'):Inv X pins σ H' { s with heap:=h',toks:=t' }:=by
 obtain ⟨m,⟨o,es,ep,ho,r⟩,_⟩:=id I.loc
 obtain ⟨sl,hL⟩:=u.any ho I.free (by simp)
 exact I.step (g':=s.gens) (d':=s.drawn) (ch:=[]) (fun _ z=>nomatch z) (fun b o _ hb _ e n=>u.keep b o e n hb (by simp)) (fun b o _ hb _ e n=>u.slot b o e n hb (by simp)) (fun b o _ e n=>u.free b o e n (by simp)) (fun b o _ e=>u.there b o e (by simp)) u.tups u.frzs u.tbls (fun m' hm=>by
  obtain ⟨o',es',ep',ho',r'⟩:=hm
  rw [ho] at ho';cases ho'
  exact ⟨_,es',ep',hL,r'⟩) hok I.bare
theorem Inv.call {g':Array GenState} {t':Nat} {d':Drawn} {ch:List Addr} (I:Inv X pins σ H s) (u:Un (frs X.stack) ch H H' s.heap h') (hok:HOk X.prog X.w H' h') (hg:AllBare g')
  (hch:∀b∈ch,(b∈X.ex∨X.s₀.heap.objs.size≤b)∧b≠X.env.locals∧(∀x c,X.env.cells.lookup x=some c→c≠b)∧∀p∈X.pn++pins,p.1≠b):
  Inv X pins σ H' { s with heap:=h',gens:=g',drawn:=d',toks:=t' }:=by
 obtain ⟨m,⟨o,es,ep,ho,r⟩,_⟩:=id I.loc
 obtain ⟨sl,hL⟩:=u.any ho I.free fun z=>(hch _ z).2.1 rfl
 exact I.step (ch:=ch) hch (fun b o hL hb hc e n=>u.keep b o e n (fun z=>(List.mem_cons.mp (I.Dl b z)).elim hL hb) hc) (fun b o _ _ hc e n=>u.any e n hc) (fun b o hc e n=>u.free b o e n hc) (fun b o hc e=>u.there b o e hc) u.tups u.frzs u.tbls (fun m' hm=>by
  obtain ⟨o',es',ep',ho',r'⟩:=hm
  rw [ho] at ho';cases ho'
  exact ⟨_,es',ep',hL,r'⟩) hok hg
theorem Inv.turned {t':Nat} {it:Addr} (I:Inv X pins σ H s) (k:∀b o,b≠it→s.heap.get? b=some o→h'.get? b=some o) (hn:H it=none) (hL:it≠X.env.locals)
  (h1:it∈X.ex∨X.s₀.heap.objs.size≤it) (h2:∀x c,X.env.cells.lookup x=some c→c≠it) (h3:∀p∈X.pn++pins,p.1≠it):Inv X pins σ H { s with heap:=h',toks:=t' }:=by
 have nit:∀b u,H b=some u→b≠it:=fun b u e z=>by rw [z,hn] at e;cases e
 refine I.step (g':=s.gens) (d':=s.drawn) (ch:=[it]) (fun b hb=>?_) (fun b o _ _ hc e _=>k b o (fun z=>hc (by simp [z])) e) (fun b o _ _ hc e _=>⟨o.slots,k b o (fun z=>hc (by simp [z])) e⟩) (fun _ _ _ _ n=>n)
  (fun b o hc e=>⟨o,k b o (fun z=>hc (by simp [z])) e⟩) (fun _ _ e=>e) (fun _ _ _ e=>e) (fun b ps e=>⟨#[],by rw [e];simp⟩) (fun m hm=>?_) (fun b u e=>?_) I.bare
 ·have e:b=it:=by simpa using hb
  subst e
  exact ⟨h1,hL,h2,h3⟩
 ·obtain ⟨o,es,ep,ho,r⟩:=hm
  exact ⟨o,es,ep,k _ o (Ne.symm hL) ho,r⟩
 ·refine (I.hok b u e).yn (fun c v hc q=>k c v ?_ q) (fun _ q=>q) fun _ _ q=>q
  rcases hc with z | z
  ·rw [z];exact nit b u e
  ·exact nit c _ z
theorem Inv.tok (I:Inv X pins σ H s) (t:Nat):Inv X pins σ H { s with toks:=t }:=I.un (h':=s.heap) (t':=t) Un.refl I.hok
theorem Inv.kept {t':Nat} (I:Inv X pins σ H s) (k:∀b u,s.heap.get? b=some u→h'.get? b=some u):Inv X pins σ H { s with heap:=h',toks:=t' }:=I.un (Un.kept k) (I.hok.kept k)
theorem Inv.laid {a:Addr} {o:HO} {t':Nat} (I:Inv X pins σ H s) (k:∀b u,s.heap.get? b=some u→h'.get? b=some u) (hp:s.heap.objs.size≤a) (new:bp X.prog X.w (upd H a o) h' a o):
  Inv X pins σ (upd H a o) { s with heap:=h',toks:=t' }:=I.un (Un.laid k hp (I.hok.fresh hp)) (I.hok.laid k hp new)
theorem Inv.write {x e:Addr} {o:HO} {t':Nat} (I:Inv X pins σ H s) (mu:Mut (H x)) (he:e=x∨H e=some (.own x)) (k:∀b u,b≠e→s.heap.get? b=some u→h'.get? b=some u) (heo:∃u,h'.get? e=some u)
  (new:bp X.prog X.w (upd H x o) h' x o):Inv X pins σ (upd H x o) { s with heap:=h',toks:=t' }:=I.un (Un.write mu he k heo) (I.hok.write mu he k heo new)
theorem Inv.Ek {pins':List (Addr×Obj)} (I:Inv X pins σ H s) (h:∀p∈pins',s.heap.get? p.1=some p.2∧H p.1=none∧p.1≠X.env.locals∧p.1∉X.fs∧∀v,p.2.data≠.cell v):Inv X pins' σ H s:=
 ⟨I.ok,I.os,I.bare,I.base,I.loc,I.cell,I.free,I.freeC,fun p hp=>(List.mem_append.mp hp).elim (fun z=>I.pin p (List.mem_append_left _ z)) (h p),I.hok,I.len⟩
theorem zp {N:List Str} (hN:N.Nodup) {i j:Nat} {x:Str} (a:N[i]?=some x) (b:N[j]?=some x):i=j:=by
 obtain ⟨h1,e1⟩:=List.getElem?_eq_some_iff.mp a
 obtain ⟨h2,e2⟩:=List.getElem?_eq_some_iff.mp b
 exact (List.getElem_inj hN).mp (e1.trans e2.symm)
theorem wx {M:Model} {A:Around} {E:Value→Shared→Prop} {i:Nat} {x:Str} {v:V} {u:Value} {Q:Unit→Shared→Prop} (I:Inv X pins σ H s) (hN:X.N.Nodup) (hi:X.N[i]?=some x) (hx:Loc X.env.scope x) (r:RelV v u)
  (h:∀s',Inv X pins (σ.set i (some v)) H s'→(∃a,Heap.SameBut a s.heap s'.heap∧(a=X.env.locals∨X.env.cells.lookup x=some a))→Q () s') (hf:X.fn x=true∨X.env.scope.names.lookup x=some .local:=by first | exact .inl rfl | exact .inr rfl | assumption):wpAny M A (storeName X.env x u) Q E s:=by
 obtain ⟨m,hn,hl⟩:=id I.loc
 have hcls:(X.env.scope.kind==.class||(X.env.scope.kind==.module&&X.env.locals !=X.env.globals))=false:=by rw [I.ok.kind];rfl
 have hiσ:i < σ.length:=by rw [I.len];exact (List.getElem?_eq_some_iff.mp hi).1
 have cne:=I.cne
 have tracked:∀{a:Addr} {h':Heap},(∃o,s.heap.get? a=some o∧H a=none)→Heap.SameBut a s.heap h'→HOk X.prog X.w H h':=fun {a h'} ha hs b ob e=>by
  obtain ⟨_,_,hfree⟩:=ha
  refine (I.hok b ob e).yn (fun c w' hc q=>(hs.2 c ?_).trans q) (fun _ q=>q) fun _ _ q=>q
  rintro rfl
  rcases hc with rfl | hc
  ·rw [hfree] at e;cases e
  ·rw [hfree] at hc;cases hc
 rcases hx with hk | hk
 ·refine wpAny_storeName_local hk hn (fun h' hn' hs=>?_) hcls
  obtain ⟨oL,_,_,hoL,_⟩:=id hn
  refine h _ ⟨I.ok,I.os,I.bare,⟨fun b o e n hb hx=>?_,fun b o e n hb hx=>?_,I.base.free,fun b o e hx=>?_,I.base.tups,I.base.frzs,I.base.tbls⟩,⟨_,hn',fun j y v' e1 e2 e3=>?_⟩,fun y c e=>?_,I.free,I.freeC,fun p hp=>?_,tracked ⟨oL,hoL,I.free⟩ hs,by simpa using I.len⟩ ⟨_,hs,.inl rfl⟩
  ·exact (hs.2 b (Nat.ne_of_lt (Nat.lt_of_lt_of_le (Heap.lt_size e) I.ok.above))).trans (I.base.keep b o e n hb hx)
  ·obtain ⟨sl,e1⟩:=I.base.slot b o e n hb hx
   exact ⟨sl,(hs.2 b (Nat.ne_of_lt (Nat.lt_of_lt_of_le (Heap.lt_size e) I.ok.above))).trans e1⟩
  ·obtain ⟨o',e1⟩:=I.base.there b o e hx
   exact ⟨o',(hs.2 b (Nat.ne_of_lt (Nat.lt_of_lt_of_le (Heap.lt_size e) I.ok.above))).trans e1⟩
  ·by_cases hj:j=i
   ·subst hj
    rw [hi] at e1;cases e1
    rw [List.getElem?_set_self hiσ] at e2
    cases e2
    exact ⟨u,r,.inl ⟨hk,by simp⟩⟩
   ·rw [List.getElem?_set_ne (Ne.symm hj)] at e2
    obtain ⟨u',r',q⟩:=hl j y v' e1 e2 e3
    refine ⟨u',r',?_⟩
    rcases q with ⟨k,e⟩ | ⟨k,c,e,z⟩
    ·refine .inl ⟨k,?_⟩
     have:y≠x:=fun e=>hj (zp hN e1 (e ▸ hi))
     simp [this,e]
    ·exact .inr ⟨k,c,e,z.sameBut hs (cne y c e)⟩
  ·obtain ⟨w',z⟩:=I.cell y c e
   exact ⟨w',z.sameBut hs (cne y c e)⟩
  ·obtain ⟨e,n,ne,nf,d⟩:=I.pin p hp
   exact ⟨(hs.2 p.1 ne).trans e,n,ne,nf,d⟩
 ·have hfn:X.fn x=true:=by
   rcases hf with z | z
   ·exact z
   ·rw [z] at hk;cases hk
  obtain ⟨c,hc⟩:=I.ok.has x (.inl hk)
  obtain ⟨w',z⟩:=I.cell x c hc
  refine wpAny_storeName_cell I.ok.kind hk hc z (fun h' hc' hs=>?_)
  obtain ⟨oc,hoc,hocd⟩:=id z
  refine h { s with heap:=h' } ⟨I.ok,I.os,I.bare,⟨fun b o e n hb hx=>?_,fun b o e n hb hx=>?_,I.base.free,fun b o e hx=>?_,I.base.tups,I.base.frzs,I.base.tbls⟩,⟨m,hn.sameBut hs (Ne.symm (cne x c hc)),fun j y v' e1 e2 e3=>?_⟩,fun y c' e=>?_,I.free,I.freeC,fun p hp=>?_,tracked ⟨oc,hoc,I.freeC x c hc⟩ hs,by simpa using I.len⟩ ⟨c,hs,.inr hc⟩
  ·exact (hs.2 b (Nat.ne_of_lt (Nat.lt_of_lt_of_le (Heap.lt_size e) (I.ok.cab x c hfn hc)))).trans (I.base.keep b o e n hb hx)
  ·obtain ⟨sl,e1⟩:=I.base.slot b o e n hb hx
   exact ⟨sl,(hs.2 b (Nat.ne_of_lt (Nat.lt_of_lt_of_le (Heap.lt_size e) (I.ok.cab x c hfn hc)))).trans e1⟩
  ·obtain ⟨o',e1⟩:=I.base.there b o e hx
   exact ⟨o',(hs.2 b (Nat.ne_of_lt (Nat.lt_of_lt_of_le (Heap.lt_size e) (I.ok.cab x c hfn hc)))).trans e1⟩
  ·by_cases hj:j=i
   ·subst hj
    rw [hi] at e1;cases e1
    rw [List.getElem?_set_self hiσ] at e2
    cases e2
    exact ⟨u,r,.inr ⟨.inl hk,c,hc,hc'⟩⟩
   ·rw [List.getElem?_set_ne (Ne.symm hj)] at e2
    obtain ⟨u',r',q⟩:=hl j y v' e1 e2 e3
    refine ⟨u',r',?_⟩
    rcases q with q | ⟨k,c',e,z'⟩
    ·exact .inl q
    ·refine .inr ⟨k,c',e,z'.sameBut hs ?_⟩
     rintro rfl
     exact hj (zp hN e1 (I.ok.inj _ _ _ e hc ▸ hi))
  ·by_cases hcc:c'=c
   ·subst hcc;exact ⟨_,hc'⟩
   ·obtain ⟨w2,z2⟩:=I.cell y c' e
    exact ⟨w2,z2.sameBut hs hcc⟩
  ·obtain ⟨e,n,ne,nf,d⟩:=I.pin p hp
   refine ⟨(hs.2 p.1 ?_).trans e,n,ne,nf,d⟩
   intro q
   rw [q,hoc] at e
   have q':oc=p.2:=Option.some.inj e
   exact d w' (by rw [←q'];exact hocd)
theorem Bd {M:Model} {A:Around} {E:Value→Shared→Prop} {i:Nat} {x:Str} {v:V} {u:Value} {Q:Unit→Shared→Prop} (I:Inv X pins σ H s) (hN:X.N.Nodup) (hi:X.N[i]?=some x) (hx:Loc X.env.scope x) (r:RelV v u)
  (h:∀s',Inv X pins (σ.set i (some v)) H s'→Q () s') (hf:X.fn x=true∨X.env.scope.names.lookup x=some .local:=by first | exact .inl rfl | exact .inr rfl | assumption):wpAny M A (storeName X.env x u) Q E s:=
 wx I hN hi hx r (fun s' I' _=>h s' I') hf
theorem Inv.call' {s':Shared} {ch:List Addr} (I:Inv X pins σ H s) (ho:s'.os=s.os) (u:Un (frs X.stack) ch H H' s.heap s'.heap) (hok:HOk X.prog X.w H' s'.heap) (hg:AllBare s'.gens)
  (hch:∀b∈ch,(b∈X.ex∨X.s₀.heap.objs.size≤b)∧b≠X.env.locals∧(∀x c,X.env.cells.lookup x=some c→c≠b)∧∀p∈X.pn++pins,p.1≠b):Inv X pins σ H' s':=by
 obtain ⟨h',g',d',t',o'⟩:=s'
 have e:o'=s.os:=ho
 subst e
 exact I.call (g':=g') (t':=t') (d':=d') u hok hg hch
end
abbrev XK:=Value→Option Addr→Hp→Prop
abbrev St:=List (Option V)
abbrev VK:=V→Hp→Prop
abbrev TE:=St→Hp→VK→Prop
abbrev TT:=St→Hp→(Bool→Hp→Prop)→Prop
abbrev TA:=St→Hp→(List V→Hp→Prop)→Prop
structure Ends where
 nx:St→Hp→Prop
 rt:VK
 bk:St→Hp→Prop:=fun _ _=>False
 ct:St→Hp→Prop:=fun _ _=>False
abbrev TS:=Ends→St→Hp→Prop
def EP (X:Cx) (pins:List (Addr×Obj)) (σ:St) (Q:VK) (u:Value) (s':Shared):Prop:=∃v H',Inv X pins σ H' s'∧RelV v u∧Q v H'
def TP (X:Cx) (pins:List (Addr×Obj)) (σ:St) (Q:Bool→Hp→Prop) (b:Bool) (s':Shared):Prop:=∃H',Inv X pins σ H' s'∧Q b H'
def AP (X:Cx) (pins:List (Addr×Obj)) (σ:St) (Q:List V→Hp→Prop) (us:List Value) (s':Shared):Prop:=∃vs H',Inv X pins σ H' s'∧Vals vs us∧Q vs H'
def SP (X:Cx) (pins:List (Addr×Obj)) (D:Ends) (f:Flow) (s':Shared):Prop:=
 match f with
 | .next=>∃σ' H',Inv X pins σ' H' s'∧D.nx σ' H'
 | .brk=>∃σ' H',Inv X pins σ' H' s'∧D.bk σ' H'
 | .cont=>∃σ' H',Inv X pins σ' H' s'∧D.ct σ' H'
 | .ret u=>∃v σ' H',Inv X pins σ' H' s'∧RelV v u∧D.rt v H'
def PE (X:Cx) (e:Expr) (t:TE):Prop:=
 ∀(pins:List (Addr×Obj)) (s:Shared) (σ:St) (H:Hp) (Q:VK),Inv X pins σ H s→t σ H Q→wpAny (model X.prog X.w) X.A (eval e X.env) (EP X pins σ Q) X.xe s
def PT (X:Cx) (e:Expr) (t:TT):Prop:=
 ∀(pins:List (Addr×Obj)) (s:Shared) (σ:St) (H:Hp) (Q:Bool→Hp→Prop),Inv X pins σ H s→t σ H Q→wpAny (model X.prog X.w) X.A (isTrue e X.env (eval e X.env)) (TP X pins σ Q) X.xe s
def PW (X:Cx) (e:Expr) (t:TT):Prop:=
 ∀(whole:Sem Value) (pins:List (Addr×Obj)) (s:Shared) (σ:St) (H:Hp) (Q:Bool→Hp→Prop),Inv X pins σ H s→t σ H Q→wpAny (model X.prog X.w) X.A (isTrue e X.env whole) (TP X pins σ Q) X.xe s
theorem PW.pt {X:Cx} {e:Expr} {t:TT} (h:PW X e t):PT X e t:=h _
def PA (X:Cx) (es:List Expr) (t:TA):Prop:=
 ∀(pos:Pos) (pins:List (Addr×Obj)) (s:Shared) (σ:St) (H:Hp) (Q:List V→Hp→Prop),Inv X pins σ H s→t σ H Q→wpAny (model X.prog X.w) X.A (spliced (backTo pos (starEach es X.env))) (AP X pins σ Q) X.xe s
def PS (X:Cx) (st:Stmt) (t:TS):Prop:=
 ∀(pins:List (Addr×Obj)) (s:Shared) (σ:St) (H:Hp) (D:Ends),Inv X pins σ H s→t D σ H→wpAny (model X.prog X.w) X.A (exec st X.env) (SP X pins D) X.xe s
def PSs (X:Cx) (st:List Stmt) (t:TS):Prop:=
 ∀(pins:List (Addr×Obj)) (s:Shared) (σ:St) (H:Hp) (D:Ends),Inv X pins σ H s→t D σ H→wpAny (model X.prog X.w) X.A (execs st X.env) (SP X pins D) X.xe s
theorem thn {α:Type} {t:Sem α} {Q Q':α→Shared→Prop} {M:Model} {A:Around} {E:Value→Shared→Prop} {s:Shared} (h:wpAny M A t Q E s) (hQ:∀a s,Q a s→Q' a s):wpAny M A t Q' E s:=wpAny_mono h hQ fun _ _ x=>x
end L2
namespace L2
open PySem PySem.Spec PyProof.Rows
section
variable {X:Cx}
def tVar (i:Nat):TE:=fun σ H Q=>∃v,σ[i]?=some (some v)∧Q v H
def tC (v:V):TE:=fun _ H Q=>Q v H
theorem pe_var {i:Nat} {x:Str} {pos:Pos} (hN:X.N[i]?=some x) (hv:Vis X.env.scope x) (hd:(x==("__debug__":Str))=false:=by decide) (hcd:(x==("__classdict__":Str))=false:=by decide):PE X (.Name x pos) (tVar i):=by
 intro pins s σ H Q I h
 obtain ⟨v,e,h⟩:=h
 obtain ⟨m,hn,hl⟩:=I.loc
 obtain ⟨u,r,l⟩:=hl i x v hN e hv
 have fin:EP X pins σ Q u s:=⟨v,H,I,r,h⟩
 rcases l with ⟨hk,hm⟩ | ⟨hk,c,hc,hcell⟩
 ·exact wpAny_Name (wpAny_loadName_local I.ok.kind hk hn hm fin) hd
 ·rcases hk with hk | hk
  ·exact wpAny_Name (wpAny_loadName_cell I.ok.kind hk hc hcell fin) hd
  ·exact wpAny_Name (wpAny_loadName_free I.ok.kind hk hc hcell fin hcd) hd
theorem Lc {i j pos}:PE X (.Constant (.int i) j pos) (tC (.int i)):=fun _ _ _ H _ I h=>wpAny_Constant_int ⟨.int i,H,I.tok _,⟨_,rfl⟩,h⟩
theorem pe_bl {b j pos}:PE X (.Constant (.bool b) j pos) (tC (.bl b)):=fun _ _ _ H _ I h=>Constant_bool ⟨.bl b,H,I,rfl,h⟩
theorem By {j pos}:PE X (.Constant .none j pos) (tC .non):=fun _ _ _ H _ I h=>Constant_none ⟨.non,H,I,rfl,h⟩
theorem K4 {x j pos}:PE X (.Constant (.str x) j pos) (tC (.str x)):=fun _ _ _ H _ I h=>Calls.Constant_str ⟨.str x,H,I.tok _,⟨_,rfl⟩,h⟩
def Gl (X:Cx) (x:Str):Prop:=X.env.kindOf x=some .globalImplicit
theorem E3 {E:Value→Shared→Prop} {pins:List (Addr×Obj)} {s:Shared} {σ:St} {H:Hp} {x:Str} {u:Value} {pos:Pos} {Q:Value→Shared→Prop} (I:Inv X pins σ H s) (hg:Gl X x) (hm:X.mg x=some u) (h:Q u s)
  (hd:(x==("__debug__":Str))=false:=by decide):wpAny (model X.prog X.w) X.A (eval (.Name x pos) X.env) Q E s:=
 Calls.Name_function_global I.ok.kind hg (Calls.loadGlobal_global (by rw [I.ok.glob];exact I.mod.glob.keeps I.bk) hm h) hd
theorem jw {E:Value→Shared→Prop} {pins:List (Addr×Obj)} {s:Shared} {σ:St} {H:Hp} {x:Str} {u:Value} {pos:Pos} {Q:Value→Shared→Prop} (I:Inv X pins σ H s) (hg:Gl X x) (hm:X.mg x=none) (hv:bootBuiltins x=some u) (h:Q u s)
  (hn:x≠"__name__":=by decide) (hd:(x==("__debug__":Str))=false:=by decide):wpAny (model X.prog X.w) X.A (eval (.Name x pos) X.env) Q E s:=by
 obtain ⟨mb,h1,h2⟩:=I.mod.blt
 exact Calls.Name_function_global I.ok.kind hg (Calls.loadGlobal_builtin (by rw [I.ok.glob];exact I.mod.glob.keeps I.bk) hm (by rw [I.ok.blt];exact h1.keeps I.bk) ((h2 x hn).trans hv) h) hd
theorem Nc {x:Str} {v:V} {u:Value} {pos:Pos} (hg:Gl X x) (hm:X.mg x=some u) (r:RelV v u) (hd:(x==("__debug__":Str))=false:=by decide):PE X (.Name x pos) (tC v):=
 fun _ _ _ H _ I h=>E3 I hg hm ⟨v,H,I,r,h⟩ hd
theorem Nr {x:Str} {v:V} {u:Value} {pos:Pos} (hg:Gl X x) (hm:X.mg x=none) (hv:bootBuiltins x=some u) (r:RelV v u) (hn:x≠"__name__":=by decide) (hd:(x==("__debug__":Str))=false:=by decide):PE X (.Name x pos) (tC v):=
 fun _ _ _ H _ I h=>jw I hg hm hv ⟨v,H,I,r,h⟩ hn hd
variable {a b:Expr} {ta tb:TE} {pos:Pos}
def PC (X:Cx) (op:CmpOp) (a b:Expr) (t:TE):Prop:=
 ∀(pins:List (Addr×Obj)) (s:Shared) (σ:St) (H:Hp) (Q:VK),Inv X pins σ H s→t σ H Q→
  wpAny (model X.prog X.w) X.A (eval a X.env) (fun v s₁=>wpAny (model X.prog X.w) X.A (eval b X.env) (fun u s₂=>wpAny (model X.prog X.w) X.A (compareOp op v u) (EP X pins σ Q) X.xe s₂) X.xe s₁) X.xe s
theorem dw (b:Expr) {op:CmpOp} (h:op≠.In) (h2:op≠.NotIn):behindInMarks op b=false:=by
 have e1:(op==CmpOp.In)=false:=by cases op <;> first | rfl | exact absurd rfl h
 have e2:(op==CmpOp.NotIn)=false:=by cases op <;> first | rfl | exact absurd rfl h2
 cases b <;> simp [behindInMarks,e1,e2]
def ux (ta:TE):TE:=fun σ H Q=>ta σ H fun x H1=>Q (.bl (!decide (x=.non))) H1
theorem RelV.K6 {x:V} {v:Value} (r:RelV x v):(v==Value.none)=decide (x=.non):=by
 cases x with
 | non=>cases r;rfl
 | bl _=>cases r;rfl
 | int _=>obtain ⟨t,rfl⟩:=r;rfl
 | str _=>obtain ⟨t,rfl⟩:=r;rfl
 | byt _=>obtain ⟨t,rfl⟩:=r;rfl
 | flt _=>obtain ⟨t,rfl⟩:=r;rfl
 | ref _=>cases r;rfl
 | ty _=>cases r;rfl
theorem yz {j pos'} (ha:PE X a ta):PC X .IsNot a (.Constant .none j pos') (ux ta):=by
 intro pins s σ H Q I h
 refine thn (ha pins s σ H _ I h) fun v s1 ⟨x,H1,I1,r1,q1⟩=>?_
 exact Constant_none (isnot_none_gen ⟨.bl _,H1,I1,by rw [r1.K6];rfl,q1⟩)
def tB (t:TE):TT:=fun σ H Q=>t σ H fun x H1=>∃c,x=.bl c∧Q c H1
theorem pt_cmp {op:CmpOp} {t:TE} (h:PC X op a b t) (h1:behindInMarks op b=false:=by first | exact dw _ (by decide) (by decide) | rfl):PT X (.Compare a [op] [b] pos) (tB t):=by
 intro pins s σ H Q I hw
 refine wpAny_isTrue_Compare1 (thn (h pins s σ H _ I hw) fun v s1 h1=>thn h1 fun u s2 h2=>thn h2 fun c s3 ⟨x,H1,I1,r1,q1⟩=>?_) h1
 obtain ⟨d,rfl,q⟩:=q1
 cases r1
 exact wpAny_truthy_bool ⟨H1,I1,q⟩
theorem pt_val {e:Expr} {t:TE} (h:PE X e t) (he:∀whole,isTrue e X.env whole=(do let v ←whole;standAt e.pos;holding [v] (truthy v)):=by intro _;rfl):PT X e (tB t):=by
 intro pins s σ H Q I hw
 refine isTrue_plain (thn (h pins s σ H _ I hw) fun v s1 ⟨x,H1,I1,r1,q1⟩=>?_) (he _)
 obtain ⟨d,rfl,q⟩:=q1
 cases r1
 exact wpAny_truthy_bool ⟨H1,I1,q⟩
variable {tA tB':TT} {rest:List Expr}
def tAnd (t u:TT):TT:=fun σ H Q=>t σ H fun c H1=>if c=true then u σ H1 Q else Q false H1
def tOr (t u:TT):TT:=fun σ H Q=>t σ H fun c H1=>if c=true then Q true H1 else u σ H1 Q
def tNot (t:TT):TT:=fun σ H Q=>t σ H fun c H1=>Q (!c) H1
theorem Np (ha:PT X a tA):PW X (.BoolOp .And [a] pos) tA:=by
 intro wh pins s σ H Q I h
 refine isTrue_and (thn (ha pins s σ H Q I h) fun c s1 e=>?_)
 cases c with
 | true=>exact isTrue_and_nil e
 | false=>exact e
theorem pw_or1 (ha:PT X a tA):PW X (.BoolOp .Or [a] pos) tA:=by
 intro wh pins s σ H Q I h
 refine isTrue_or (thn (ha pins s σ H Q I h) fun c s1 e=>?_)
 cases c with
 | false=>exact isTrue_or_nil e
 | true=>exact e
theorem pw_and (ha:PT X a tA) (hb:PW X (.BoolOp .And (b::rest) pos) tB'):PW X (.BoolOp .And (a::b::rest) pos) (tAnd tA tB'):=by
 intro wh pins s σ H Q I h
 refine isTrue_and (thn (ha pins s σ H _ I h) fun c s1 ⟨H1,I1,q1⟩=>?_)
 cases c with
 | true=>exact hb wh pins s1 σ H1 Q I1 q1
 | false=>exact ⟨H1,I1,q1⟩
theorem pw_or (ha:PT X a tA) (hb:PW X (.BoolOp .Or (b::rest) pos) tB'):PW X (.BoolOp .Or (a::b::rest) pos) (tOr tA tB'):=by
 intro wh pins s σ H Q I h
 refine isTrue_or (thn (ha pins s σ H _ I h) fun c s1 ⟨H1,I1,q1⟩=>?_)
 cases c with
 | true=>exact ⟨H1,I1,q1⟩
 | false=>exact hb wh pins s1 σ H1 Q I1 q1
theorem pt_not (ha:PT X a tA):PT X (.UnaryOp .Not a pos) (tNot tA):=by
 intro pins s σ H Q I h
 exact isTrue_not (ha pins s σ H (fun c H1=>Q (!c) H1) I h)
def tAndV (ta tb:TE):TE:=fun σ H Q=>ta σ H fun x H1=>∃c,x=.bl c∧if c=true then tb σ H1 Q else Q (.bl false) H1
def tOrV (ta tb:TE):TE:=fun σ H Q=>ta σ H fun x H1=>∃c,x=.bl c∧if c=true then Q (.bl true) H1 else tb σ H1 Q
def tNotV (ta:TE):TE:=fun σ H Q=>ta σ H fun x H1=>∃c,x=.bl c∧Q (.bl (!c)) H1
theorem pe_one {op} {t:TE} (h:PE X a t):PE X (.BoolOp op [a] pos) t:=fun pins s σ H Q I hw=>BoolOp_one (h pins s σ H Q I hw)
theorem pe_and (ha:PE X a ta) (hb:PE X (.BoolOp .And (b::rest) pos) tb):PE X (.BoolOp .And (a::b::rest) pos) (tAndV ta tb):=by
 intro pins s σ H Q I h
 refine BoolOp_and (thn (ha pins s σ H _ I h) fun v s1 ⟨x,H1,I1,r1,q1⟩=>?_)
 obtain ⟨c,rfl,q1⟩:=q1
 cases r1
 refine wpAny_truthy_bool ?_
 cases c with
 | true=>exact hb pins s1 σ H1 Q I1 q1
 | false=>exact ⟨.bl false,H1,I1,rfl,q1⟩
theorem yi (ha:PE X a ta):PE X (.UnaryOp .Not a pos) (tNotV ta):=by
 intro pins s σ H Q I h
 refine UnaryOp_ (thn (ha pins s σ H _ I h) fun v s1 ⟨x,H1,I1,r1,q1⟩=>?_)
 obtain ⟨c,rfl,q1⟩:=q1
 cases r1
 exact not_of (wpAny_truthy_bool ⟨.bl (!c),H1,I1,rfl,q1⟩)
def tIf (t:TT) (ta tb:TE):TE:=fun σ H Q=>t σ H fun c H1=>if c=true then ta σ H1 Q else tb σ H1 Q
theorem Jt {c:Expr} (hc:PT X c tA) (ha:PE X a ta) (hb:PE X b tb):PE X (.IfExp c a b pos) (tIf tA ta tb):=by
 intro pins s σ H Q I h
 refine wpAny_IfExp (thn (hc pins s σ H _ I h) fun d s1 ⟨H1,I1,q1⟩=>?_)
 cases d with
 | true=>exact ha pins s1 σ H1 Q I1 q1
 | false=>exact hb pins s1 σ H1 Q I1 q1
end
end L2
namespace L2
open PySem PySem.Spec PyProof.Rows
def SqL (K:PySem.W.Frag) (H:Hp) (a:Addr) (xs:List V):Prop:=
 Rd H a (.lst xs)∨
  ∃(o:Obj) (its:Array Value) (n:Nat),K.lookup a=some o∧o.cls=.type "list"∧o.dict=none∧o.data=.seq its n∧its.size≤sizeLine∧Vals xs its.toList
def SqT (K:PySem.W.Frag) (H:Hp) (a:Addr) (xs:List V):Prop:=
 Rd H a (.tup xs)∨
  ∃(o:Obj) (its:Array Value) (n:Nat),K.lookup a=some o∧o.cls=.type "tuple"∧o.data=.seq its n∧its.size≤sizeLine∧Vals xs its.toList
noncomputable def absV:Value→Option V
 | .none=>some .non
 | .bool b=>some (.bl b)
 | .int i _=>some (.int i)
 | .str x _=>some (.str x)
 | .bytes b _=>some (.byt b)
 | .float b _=>some (.flt b)
 | .ref a=>some (.ref a)
 | .type n=>some (.ty n)
 | _=>none
theorem RelV.abs {x:V} {u:Value} (r:RelV x u):absV u=some x:=by
 cases x with
 | non=>cases r;rfl
 | bl _=>cases r;rfl
 | int _=>obtain ⟨t,rfl⟩:=r;rfl
 | str _=>obtain ⟨t,rfl⟩:=r;rfl
 | byt _=>obtain ⟨t,rfl⟩:=r;rfl
 | flt _=>obtain ⟨t,rfl⟩:=r;rfl
 | ref _=>cases r;rfl
 | ty _=>cases r;rfl
theorem RelV.inj {x y:V} {u:Value} (r:RelV x u) (q:RelV y u):x=y:=Option.some.inj (r.abs.symm.trans q.abs)
theorem Vals.inj:∀{xs ys:List V} {us:List Value},Vals xs us→Vals ys us→xs=ys
 | _,_,_,.nil,.nil=>rfl
 | _,_,_,.cons r t,.cons r' t'=>by rw [r.inj r',Vals.inj t t']
section
variable {X:Cx} {pins:List (Addr×Obj)} {σ:St} {H:Hp} {s:Shared} {a:Addr} {xs ys:List V}
theorem SqL.of {K:PySem.W.Frag} (h:H a=some (.lst xs)):SqL K H a xs:=.inl (.inl h)
theorem SqT.of {K:PySem.W.Frag} (h:H a=some (.tup xs)):SqT K H a xs:=.inl (.inl h)
theorem Inv.list (I:Inv X pins σ H s) (h:SqL X.K H a xs):∃its:List Value,Vals xs its∧PlainL s.heap a its.toArray∧xs.length≤sizeLine:=by
 rcases h with h | ⟨o,its,n,hk,hc,hd,hs,hz,r⟩
 ·obtain ⟨z,its,n,r,e⟩:=h.ok I.hok
  exact ⟨its,r,⟨_,n,e,rfl,rfl,rfl⟩,z⟩
 ·refine ⟨its.toList,r,⟨o,n,I.kIn a o hk,hc,hd,by simpa using hs⟩,?_⟩
  have e:=r.length
  simp only [Array.length_toList] at e
  omega
theorem Inv.tuple (I:Inv X pins σ H s) (h:SqT X.K H a xs):∃its:List Value,Vals xs its∧IsTup s.heap a its.toArray∧xs.length≤sizeLine:=by
 rcases h with h | ⟨o,its,n,hk,hc,hs,hz,r⟩
 ·obtain ⟨z,its,r,p⟩:=h.ok I.hok
  exact ⟨its,r,p.tup,z⟩
 ·refine ⟨its.toList,r,⟨o,I.kIn a o hk,hc,n,by simpa using hs⟩,?_⟩
  have e:=r.length
  simp only [Array.length_toList] at e
  omega
theorem Inv.zt (I:Inv X pins σ H s) (h:SqL X.K H a xs) (h':SqL X.K H a ys):xs=ys:=by
 obtain ⟨its,r,⟨o,n,e,_,_,d⟩,_⟩:=I.list h
 obtain ⟨its',r',⟨o',n',e',_,_,d'⟩,_⟩:=I.list h'
 rw [e] at e';cases e'
 rw [d] at d'
 injection d' with d1 _
 have:its=its':=by simpa using congrArg Array.toList d1
 subst this
 exact r.inj r'
theorem Inv.Gp (I:Inv X pins σ H s) (h:SqT X.K H a xs) (h':SqT X.K H a ys):xs=ys:=by
 obtain ⟨its,r,⟨o,e,_,n,d⟩,_⟩:=I.tuple h
 obtain ⟨its',r',⟨o',e',_,n',d'⟩,_⟩:=I.tuple h'
 rw [e] at e';cases e'
 rw [d] at d'
 injection d' with d1 _
 have:its=its':=by simpa using congrArg Array.toList d1
 subst this
 exact r.inj r'
end
noncomputable abbrev Cx.wj (X:Cx) (E:Value→Shared→Prop):Cx:={ X with xe:=E }
noncomputable abbrev Cx.nox (X:Cx):Cx:=X.wj fun _ _=>False
theorem Cx.Ok.wj {X:Cx} (ok:X.Ok) (E:Value→Shared→Prop):(X.wj E).Ok:=
 ⟨ok.mod,ok.kind,ok.glob,ok.blt,ok.above,ok.inj,ok.has,ok.cab,ok.hd,ok.frames,ok.stk,ok.exf,ok.bs,ok.bsz,ok.noex,ok.exfs,ok.qk,ok.frf⟩
theorem Cx.Ok.jy {X:Cx} {E:Value→Shared→Prop} (ok:(X.wj E).Ok):X.Ok:=
 ⟨ok.mod,ok.kind,ok.glob,ok.blt,ok.above,ok.inj,ok.has,ok.cab,ok.hd,ok.frames,ok.stk,ok.exf,ok.bs,ok.bsz,ok.noex,ok.exfs,ok.qk,ok.frf⟩
section
variable {X:Cx} {pins:List (Addr×Obj)} {σ:St} {H:Hp} {s:Shared} {E:Value→Shared→Prop}
theorem Inv.wj (I:Inv X pins σ H s) (E:Value→Shared→Prop):Inv (X.wj E) pins σ H s:=⟨I.ok.wj E,I.os,I.bare,I.base,I.loc,I.cell,I.free,I.freeC,I.pin,I.hok,I.len⟩
theorem Inv.jy (I:Inv (X.wj E) pins σ H s):Inv X pins σ H s:=⟨I.ok.jy,I.os,I.bare,I.base,I.loc,I.cell,I.free,I.freeC,I.pin,I.hok,I.len⟩
theorem SP.jy {D:Ends} {f:Flow} {s':Shared} (h:SP (X.wj E) pins D f s'):SP X pins D f s':=by
 cases f with
 | next=>obtain ⟨σ',H',I,q⟩:=h;exact ⟨σ',H',I.jy,q⟩
 | brk=>obtain ⟨σ',H',I,q⟩:=h;exact ⟨σ',H',I.jy,q⟩
 | cont=>obtain ⟨σ',H',I,q⟩:=h;exact ⟨σ',H',I.jy,q⟩
 | ret u=>obtain ⟨v,σ',H',I,r,q⟩:=h;exact ⟨v,σ',H',I.jy,r,q⟩
theorem PSs.nox {st:List Stmt} {t:TS} (h:PSs X.nox st t):PSs X st t:=fun pins s σ H D I hw=>
 wpAny_mono (h pins s σ H D (I.wj _) hw) (fun _ _ q=>q.jy) fun _ _ z=>False.elim z
end
section
variable {X:Cx} {st:Stmt} {rest:List Stmt} {t u:TS} {e:Expr} {te:TE} {pos:Pos}
def tNext:TS:=fun D σ H=>D.nx σ H
def tSeq (t u:TS):TS:=fun D σ H=>t { D with nx:=u D } σ H
theorem Oj:PSs X [] tNext:=fun _ _ σ H _ I h=>wpAny_execs_nil ⟨σ,H,I,h⟩
theorem K2 (h1:PS X st t) (h2:PSs X rest u):PSs X (st::rest) (tSeq t u):=by
 intro pins s σ H D I h
 refine wpAny_execs_cons (thn (h1 pins s σ H { D with nx:=u D } I h) fun f s1 q=>?_)
 cases f with
 | next=>
  obtain ⟨σ',H',I',q⟩:=q
  exact h2 pins s1 σ' H' D I' q
 | ret v=>exact q
 | brk=>exact q
 | cont=>exact q
theorem Ng (h1:PS X st t):PSs X [st] t:=by
 intro pins s σ H D I h
 refine wpAny_execs_cons (thn (h1 pins s σ H D I h) fun f s1 q=>?_)
 cases f with
 | next=>exact wpAny_execs_nil q
 | ret v=>exact q
 | brk=>exact q
 | cont=>exact q
def tCont:TS:=fun D σ H=>D.ct σ H
theorem Av:PS X (.Continue pos) tCont:=fun _ _ σ H _ I h=>wpAny_Continue ⟨σ,H,I,h⟩
theorem Inv.quiet {pins:List (Addr×Obj)} {σ:St} {H:Hp} {s:Shared} (I:Inv X pins σ H s):interactive X.env=false:=by simp [interactive,I.ok.kind]
def tDrop (te:TE):TS:=fun D σ H=>te σ H fun _ H1=>D.nx σ H1
theorem O4 (he:PE X e te) (hs:swapsWith e none pos.line X.env=pure false:=by rfl):PS X (.Expr e pos) (tDrop te):=by
 intro pins s σ H D I h
 exact wpAny_Expr_any (thn (he pins s σ H _ I h) fun v s1 ⟨x,H1,I1,r1,q1⟩=>⟨σ,H1,I1,q1⟩) I.quiet hs
def tRet (te:TE):TS:=fun D σ H=>te σ H D.rt
theorem ps_ret (he:PE X e te):PS X (.Return (some e) pos) (tRet te):=by
 intro pins s σ H D I h
 exact wpAny_Return_some (thn (he pins s σ H _ I h) fun v s1 ⟨x,H1,I1,r1,q1⟩=>⟨x,σ,H1,I1,r1,q1⟩)
def tRetN:TS:=fun D _ H=>D.rt .non H
def tIfS (c:TT) (t u:TS):TS:=fun D σ H=>c σ H fun b H1=>if b=true then t D σ H1 else u D σ H1
theorem ps_if {c:Expr} {a b:List Stmt} {tc:TT} (hc:PT X c tc) (ha:PSs X a t) (hb:PSs X b u):PS X (.If c a b pos) (tIfS tc t u):=by
 intro pins s σ H D I h
 refine wpAny_If (thn (hc pins s σ H _ I h) fun d s1 ⟨H1,I1,q1⟩=>?_)
 cases d with
 | true=>exact ha pins s1 σ H1 D I1 q1
 | false=>exact hb pins s1 σ H1 D I1 q1
end
abbrev TG:=V→St→Hp→(St→Hp→Prop)→Prop
abbrev TGs:=List V→St→Hp→(St→Hp→Prop)→Prop
def PG (X:Cx) (target:Expr) (t:TG):Prop:=
 ∀(pins:List (Addr×Obj)) (s:Shared) (σ:St) (H:Hp) (v:V) (u:Value) (Q:St→Hp→Prop),Inv X pins σ H s→RelV v u→t v σ H Q→
  wpAny (model X.prog X.w) X.A (assign target X.env u) (fun _ s'=>∃σ' H',Inv X pins σ' H' s'∧Q σ' H') X.xe s
def PGs (X:Cx) (ts:List Expr) (t:TGs):Prop:=
 ∀(pins:List (Addr×Obj)) (s:Shared) (σ:St) (H:Hp) (vs:List V) (us:List Value) (Q:St→Hp→Prop),Inv X pins σ H s→Vals vs us→t vs σ H Q→
  wpAny (model X.prog X.w) X.A (assignInOrder ((assignEach ts X.env).map (·.2)) us) (fun _ s'=>∃σ' H',Inv X pins σ' H' s'∧Q σ' H') X.xe s
abbrev TSet:=V→V→V→Hp→(Hp→Prop)→Prop
def PSet (X:Cx) (t:TSet):Prop:=
 ∀(pins:List (Addr×Obj)) (s:Shared) (σ:St) (H:Hp) (o i v:V) (ov iv u:Value) (Q:Hp→Prop),Inv X pins σ H s→RelV o ov→RelV i iv→RelV v u→t o i v H Q→
  wpAny (model X.prog X.w) X.A (setItem ov iv u) (fun _ s'=>∃H',Inv X pins σ H' s'∧Q H') X.xe s
section
variable {X:Cx} {pos:Pos}
def ck (i:Nat):TG:=fun v σ H Q=>Q (σ.set i (some v)) H
theorem Du {i:Nat} {x:Str} (hN:X.N.Nodup) (hi:X.N[i]?=some x) (hx:Loc X.env.scope x) (hf:X.fn x=true∨X.env.scope.names.lookup x=some .local:=by first | exact .inl rfl | exact .inr rfl | assumption):PG X (.Name x pos) (ck i):=by
 intro pins s σ H v u Q I r h
 exact wpAny_assign_Name (Bd I hN hi hx r (fun s' I'=>⟨_,H,I',h⟩) hf)
def gNil:TGs:=fun vs σ H Q=>vs=[]∧Q σ H
def eg (t:TG) (u:TGs):TGs:=fun vs σ H Q=>∃v r,vs=v::r∧t v σ H fun σ' H'=>u r σ' H' Q
theorem iy:PGs X [] gNil:=by
 intro pins s σ H vs us Q I r h
 obtain ⟨e,h⟩:=h
 subst e
 cases r
 exact assignInOrder_nil ⟨σ,H,I,h⟩
theorem Jn {e:Expr} {es:List Expr} {t:TG} {u:TGs} (h1:PG X e t) (h2:PGs X es u)
  (hs:(assignEach (e::es) X.env).map (·.2)=assign e X.env::(assignEach es X.env).map (·.2):=by rfl):PGs X (e::es) (eg t u):=by
 intro pins s σ H vs us Q I r h
 obtain ⟨v,vr,e1,h⟩:=h
 subst e1
 cases r with
 | cons r rr=>
  rw [hs]
  refine assignInOrder_cons (thn (h1 pins s σ H _ _ _ I r h) fun _ s1 ⟨σ1,H1,I1,q1⟩=>?_)
  exact h2 pins s1 σ1 H1 _ _ Q I1 rr q1
def Cg (K:PySem.W.Frag) (n:Nat) (t:TGs):TG:=fun v σ H Q=>∃a xs,v=.ref a∧SqT K H a xs∧xs.length=n∧t xs σ H Q
theorem Jo {es:List Expr} {k:Nat} {t:TGs} {n:Nat} (hc:X.calm=true) (h:PGs X es t)
  (hn:(assignEach es X.env).length=n:=by rfl) (hst:(assignEach es X.env).findIdx? (·.1)=none:=by rfl):PG X (.Tuple es k pos) (Cg X.K n t):=by
 intro pins s σ H v u Q I r hw
 obtain ⟨a,xs,e1,hq,hl,hw⟩:=hw
 subst e1
 cases r
 obtain ⟨its,rv,ht,hz⟩:=I.tuple hq
 refine assign_Tuple_tuple (I.ok.hd hc) ht (by simp [hn,←hl,rv.length]) hst fun h' hx=>?_
 have I1:Inv X pins σ H { s with heap:=h' }:=I.kept (t':=s.toks) fun b o e=>hx b o (Nat.ne_of_lt (Heap.lt_size e)) e
 exact h pins _ σ H xs _ Q I1 (by simpa using rv) hw
def gSub (to ti:TE) (t:TSet):TG:=fun v σ H Q=>to σ H fun o H1=>ti σ H1 fun i H2=>t o i v H2 fun H3=>Q σ H3
theorem Io {o i:Expr} {to ti:TE} {t:TSet} (ho:PE X o to) (hi:PE X i ti) (hs:PSet X t)
  (ha:∀v,assign (.Subscript o i pos) X.env v=(do
   let ov ←holding [v] (eval o X.env)
   let iv ←holding [v,ov] (eval i X.env)
   standAt pos
   holding [v,ov,iv] (setItem ov iv v)
   release [v,ov,iv] []):=by intro _;rfl):PG X (.Subscript o i pos) (gSub to ti t):=by
 intro pins s σ H v u Q I r h
 rw [ha]
 refine wpAny_bind (wpAny_holding (thn (ho pins s σ H _ I h) fun ov s1 ⟨x,H1,I1,r1,q1⟩=>?_))
 refine wpAny_bind (wpAny_holding (thn (hi pins s1 σ H1 _ I1 q1) fun iv s2 ⟨y,H2,I2,r2,q2⟩=>?_))
 refine wpAny_bind (wpAny_standAt (wpAny_bind (wpAny_holding (thn (hs pins s2 σ H2 x y v ov iv u _ I2 r1 r2 r q2) fun _ s3 ⟨H3,I3,q3⟩=>?_))))
 exact wpAny_release ⟨σ,H3,I3,q3⟩
def tAsg (te:TE) (g:TG):TS:=fun D σ H=>te σ H fun x H1=>g x σ H1 D.nx
theorem Le {tg e:Expr} {te:TE} {g:TG} (he:PE X e te) (hg:PG X tg g) (hs:swapsWithSole [tg] e pos.line X.env=pure false:=by rfl) (hw:swappedStores [tg] e X.env=pure none:=by rfl)
  (h1:(assignEach [tg] X.env).map (·.2)=[assign tg X.env]:=by rfl):PS X (.Assign [tg] e pos) (tAsg te g):=by
 intro pins s σ H D I h
 refine wpAny_Assign_stores (thn (he pins s σ H _ I h) fun v s1 ⟨x,H1,I1,r1,q1⟩=>?_) hs hw
 rw [h1]
 exact thn (hg pins s1 σ H1 x v _ I1 r1 q1) fun _ s2 q=>q
theorem Lp {i:Nat} {x:Str} {e:Expr} {te:TE} {pos':Pos} (hN:X.N.Nodup) (hi:X.N[i]?=some x) (hx:Loc X.env.scope x) (he:PE X e te) (hs:swapsWith e (some (.Name x pos')) pos.line X.env=pure false:=by rfl) (hf:X.fn x=true∨X.env.scope.names.lookup x=some .local:=by first | exact .inl rfl | exact .inr rfl | assumption):
  PS X (.Assign [.Name x pos'] e pos) (tAsg te (ck i)):=by
 intro pins s σ H D I h
 refine wpAny_Assign_Name (thn (he pins s σ H _ I h) fun v s1 ⟨y,H1,I1,r1,q1⟩=>?_) hs
 exact Bd I1 hN hi hx r1 (fun s2 I2=>⟨_,H1,I2,q1⟩) hf
end
section
variable {X:Cx} {pos:Pos}
def Hw (c:TT) (tb:TS):TS:=fun D σ H=>∃W:Nat→St→Hp→Prop,(∃m,W m σ H)∧∀m σ H,W m σ H→
 c σ H fun b H1=>if b=true then ∃N:St→Hp→Prop,(∀σ' H',N σ' H'→∃m',m' < m∧W m' σ' H')∧tb { D with nx:=N,ct:=N,bk:=D.nx } σ H1 else D.nx σ H1
theorem K5 {c:Expr} {body:List Stmt} {tc:TT} {tb:TS} (hp:PassesOwn (model X.prog X.w) X.A X.env X.xe) (hc:PT X c tc) (hb:PSs X body tb):PS X (.While c body [] pos) (Hw tc tb):=by
 intro pins s σ H D I h
 obtain ⟨W,⟨m0,w0⟩,turn⟩:=h
 refine wpAny_While (codeAny_whileLoop (fun n s'=>∃σ' H',Inv X pins σ' H' s'∧W n σ' H') ?_ m0 ⟨σ,H,I,w0⟩)
 rintro n s1 ⟨σ1,H1,I1,w1⟩
 refine wpAny_passesOwn hp (thn (hc pins s1 σ1 H1 _ I1 (turn n σ1 H1 w1)) fun b s2 ⟨H2,I2,q2⟩=>?_)
 cases b with
 | true=>
  obtain ⟨N,hN,q2⟩:=q2
  rw [if_pos rfl]
  refine wpAny_passesOwn hp (thn (hb pins s2 σ1 H2 _ I2 q2) fun f s3 q3=>?_)
  cases f with
  | next=>
   obtain ⟨σ3,H3,I3,n3⟩:=q3
   obtain ⟨m',hm,w3⟩:=hN σ3 H3 n3
   exact ⟨m',hm,σ3,H3,I3,w3⟩
  | cont=>
   obtain ⟨σ3,H3,I3,n3⟩:=q3
   obtain ⟨m',hm,w3⟩:=hN σ3 H3 n3
   exact ⟨m',hm,σ3,H3,I3,w3⟩
  | brk=>exact q3
  | ret v=>exact q3
 | false=>
  rw [if_neg Bool.false_ne_true]
  exact wpAny_execs_nil ⟨σ1,H2,I2,q2⟩
end
structure It where
 go:Nat→Hp→Prop
 yld:Nat→Hp→V→Hp→Prop
 stop:Nat→Hp→Prop
def qo (X:Cx) (pins:List (Addr×Obj)) (H:Hp) (b:Addr):Prop:=
 H b=none∧b≠X.env.locals∧b∉X.fs∧(b∈X.ex∨X.s₀.heap.objs.size≤b)∧(∀x c,X.env.cells.lookup x=some c→c≠b)∧∀p∈X.pn++pins,p.1≠b
theorem Inv.Bz {X:Cx} {pins:List (Addr×Obj)} {σ:St} {H H':Hp} {s:Shared} {b:Addr} (I:Inv X pins σ H s) (hb:s.heap.objs.size≤b) (hn:H' b=none):qo X pins H' b:=by
 refine ⟨hn,Nat.ne_of_gt (Nat.lt_of_lt_of_le I.lt hb),I.nofs hb,.inr (Nat.le_trans I.sz hb),fun x c e z=>?_,fun p hp z=>?_⟩
 ·obtain ⟨v,q⟩:=I.cell x c e
  exact absurd (Nat.lt_of_lt_of_le q.lt (by rw [z];exact hb)) (Nat.lt_irrefl _)
 ·exact absurd (Nat.lt_of_lt_of_le (Heap.lt_size (I.pin p hp).1) (by rw [z];exact hb)) (Nat.lt_irrefl _)
structure Turn (P:Program) (w:World) (K:PySem.W.Frag) (tg:Expr) (J:It) (fp:List Addr) (it:Addr) (tn:Nat→Heap→Prop):Prop where
 mem:it∈fp
 obj:∀i h,tn i h→∀b∈fp,∃o,h.get? b=some o∧∀v,o.data≠.cell v
 keep:∀i h h',tn i h→(∀b∈fp,∀o,h.get? b=some o→h'.get? b=some o)→tn i h'
 item:∀(X:Cx),X.prog=P→X.w=w→X.K=K→X.calm=true→∀(i:Nat) (pins:List (Addr×Obj)) (s:Shared) (σ:St) (H:Hp) (E:Value→Shared→Prop),Inv X pins σ H s→(∀b∈fp,qo X pins H b)→tn i s.heap→J.go i H→
  wpAny (model P w) X.A (pyNext (.ref it)) (fun r s1=>∃u,r=some u∧
   wpAny (model P w) X.A (letOwnedTupleGo tg (.ref it) u) (fun _ s2=>∃x H',Inv X pins σ H' s2∧RelV x u∧J.yld i H x H'∧tn (i+1) s2.heap∧∀b∈fp,H' b=none) E s1) E s
 done:∀(X:Cx),X.prog=P→X.w=w→X.K=K→X.calm=true→∀(i:Nat) (pins:List (Addr×Obj)) (s:Shared) (σ:St) (H:Hp) (E:Value→Shared→Prop),Inv X pins σ H s→(∀b∈fp,qo X pins H b)→tn i s.heap→J.stop i H→
  wpAny (model P w) X.A (pyNext (.ref it)) (fun r s1=>r=none∧Inv X pins σ H s1) E s
 self:∀(A:Around) (i:Nat) (s:Shared) (Q:Value→Shared→Prop) (E:Value→Shared→Prop),tn i s.heap→Q (.ref it) s→wpAny (model P w) A (pyIter (.ref it)) Q E s
abbrev TI:=St→Hp→(It→Hp→Prop)→Prop
def PIE (X:Cx) (pins:List (Addr×Obj)) (σ:St) (tg:Expr) (R:It→Hp→Prop) (itv:Value) (s2:Shared):Prop:=
 ∃(it:Addr) (fp:List Addr) (tn:Nat→Heap→Prop) (J:It) (H':Hp),itv=.ref it∧Inv X pins σ H' s2∧Turn X.prog X.w X.K tg J fp it tn∧tn 0 s2.heap∧(∀b∈fp,qo X pins H' b)∧R J H'
def PI (X:Cx) (tg iter:Expr) (wi:TI):Prop:=
 ∀(pins:List (Addr×Obj)) (s:Shared) (σ:St) (H:Hp) (R:It→Hp→Prop),Inv X pins σ H s→wi σ H R→
  wpAny (model X.prog X.w) X.A (eval iter X.env) (fun v s1=>wpAny (model X.prog X.w) X.A (pyIter v) (PIE X pins σ tg R) X.xe s1) X.xe s
theorem wy {M:Model} {A:Around} {E:Value→Shared→Prop} {s:Shared} {tg:Expr} {it:Addr} {u:Value} {o:Obj} {n:String} {vs:Array Value} {Q:Unit→Shared→Prop} (ho:s.heap.get? it=some o) (hc:o.cls=.type n) (hd:o.data=.fields vs)
    (hn:["enumerate","zip","dict_itemiterator","dict_reverseitemiterator","odict_iterator","itertools.zip_longest","itertools.pairwise"].contains n=false) (hQ:Q () s):wpAny M A (letOwnedTupleGo tg (.ref it) u) Q E s:=by
  unfold letOwnedTupleGo
  cases tg <;> first
    | exact wpAny_pure hQ
    | (cases u <;> first
        | exact wpAny_pure hQ
        | (refine wpAny_bind (wpAny_load ho ?_)
           rw [hc,hd]
           show wpAny M A (if (["enumerate","zip","dict_itemiterator","dict_reverseitemiterator","odict_iterator","itertools.zip_longest","itertools.pairwise"].contains n&&vs[0]?==some (rawInt _))=true then _ else _) Q E s
           rw [if_neg (by intro h;rw [hn,Bool.false_and] at h;cases h)]
           exact wpAny_pure hQ))
noncomputable def Itl (K:PySem.W.Frag) (a:Addr):It:=
 ⟨fun i H=>∃xs x,SqL K H a xs∧xs[i]?=some x,fun i H x H'=>H'=H∧∀xs,SqL K H a xs→xs[i]?=some x,fun i H=>∃xs,SqL K H a xs∧xs.length≤i⟩
noncomputable def Itt (K:PySem.W.Frag) (a:Addr):It:=
 ⟨fun i H=>∃xs x,SqT K H a xs∧xs[i]?=some x,fun i H x H'=>H'=H∧∀xs,SqT K H a xs→xs[i]?=some x,fun i H=>∃xs,SqT K H a xs∧xs.length≤i⟩
noncomputable def Itr (lo:Int) (n:Nat):It:=⟨fun i _=>i < n,fun i H x H'=>H'=H∧x=.int (lo+i),fun i _=>n≤i⟩
theorem Hq {P:Program} {w:World} {K:PySem.W.Frag} {tg:Expr} (a it:Addr):Turn P w K tg (Itl K a) [it] it (fun i h=>h.IsListIter it a i) where
 mem:=by simp
 obj:=fun i h st b hb=>by
  have e:b=it:=by simpa using hb
  subst e
  obtain ⟨o,e,c,d⟩:=st
  exact ⟨o,e,fun v z=>by rw [d] at z;cases z⟩
 keep:=fun i h h' st k=>st.at fun o e=>k it (by simp) o e
 item:=by
  intro X hP hw hK hc i pins s σ H E I hf st hg
  subst hP hw hK
  obtain ⟨xs,x,hq,hx⟩:=hg
  obtain ⟨its,rv,p,hz⟩:=I.list hq
  obtain ⟨u,hu,ru⟩:=rv.get hx
  obtain ⟨f0,f1,f2,f3,f4,f5⟩:=hf it (by simp)
  refine wpAny_pyNext_list_item st p.isList (x:=u) (by simpa using hu) fun h' st' sb=>?_
  have I1:Inv X pins σ H { s with heap:=h' }:=I.turned (t':=s.toks) (fun b o hb e=>(sb.2 b hb).trans e) f0 f1 f3 f4 f5
  obtain ⟨o,e,c,d⟩:=id st'
  exact ⟨u,rfl,wy (s:={ s with heap:=h' }) e c d (by decide) ⟨x,H,I1,ru,⟨rfl,fun ys hy=>by rw [I.zt hy hq];exact hx⟩,st',fun b hb=>(hf b hb).1⟩⟩
 done:=by
  intro X hP hw hK hc i pins s σ H E I hf st hg
  subst hP hw hK
  obtain ⟨xs,hq,hx⟩:=hg
  obtain ⟨its,rv,p,hz⟩:=I.list hq
  obtain ⟨f0,f1,f2,f3,f4,f5⟩:=hf it (by simp)
  have hl:=rv.length
  exact wpAny_pyNext_list_end (I.ok.hd hc) st p.isList (by simp;omega) fun h' eb=>⟨rfl,I.turned (t':=s.toks) (fun b o hb e=>eb b o hb e) f0 f1 f3 f4 f5⟩
 self:=fun _ _ _ _ _ st h=>wpAny_pyIter_listiter st h
theorem De {P:Program} {w:World} {K:PySem.W.Frag} {tg:Expr} (a it:Addr):Turn P w K tg (Itt K a) [it] it (fun i h=>h.IsTupleIter it a i) where
 mem:=by simp
 obj:=fun i h st b hb=>by
  have e:b=it:=by simpa using hb
  subst e
  obtain ⟨o,e,c,d⟩:=st
  exact ⟨o,e,fun v z=>by rw [d] at z;cases z⟩
 keep:=fun i h h' st k=>st.at fun o e=>k it (by simp) o e
 item:=by
  intro X hP hw hK hc i pins s σ H E I hf st hg
  subst hP hw hK
  obtain ⟨xs,x,hq,hx⟩:=hg
  obtain ⟨its,rv,p,hz⟩:=I.tuple hq
  obtain ⟨u,hu,ru⟩:=rv.get hx
  obtain ⟨f0,f1,f2,f3,f4,f5⟩:=hf it (by simp)
  refine wpAny_pyNext_tuple_item st (show s.heap.IsTuple a its.toArray from p) (x:=u) (by simpa using hu) fun h' st' sb=>?_
  have I1:Inv X pins σ H { s with heap:=h' }:=I.turned (t':=s.toks) (fun b o hb e=>(sb.2 b hb).trans e) f0 f1 f3 f4 f5
  obtain ⟨o,e,c,d⟩:=id st'
  exact ⟨u,rfl,wy (s:={ s with heap:=h' }) e c d (by decide) ⟨x,H,I1,ru,⟨rfl,fun ys hy=>by rw [I.Gp hy hq];exact hx⟩,st',fun b hb=>(hf b hb).1⟩⟩
 done:=by
  intro X hP hw hK hc i pins s σ H E I hf st hg
  subst hP hw hK
  obtain ⟨xs,hq,hx⟩:=hg
  obtain ⟨its,rv,p,hz⟩:=I.tuple hq
  obtain ⟨f0,f1,f2,f3,f4,f5⟩:=hf it (by simp)
  have hl:=rv.length
  exact wpAny_pyNext_tuple_end (I.ok.hd hc) st (show s.heap.IsTuple a its.toArray from p) (by simp;omega) fun h' eb=>⟨rfl,I.turned (t':=s.toks) (fun b o hb e=>eb b o hb e) f0 f1 f3 f4 f5⟩
 self:=fun _ _ _ _ _ st h=>wpAny_pyIter_tupleiter st h
theorem Dc {P:Program} {w:World} {K:PySem.W.Frag} {tg:Expr} (it:Addr) (lo:Int) (n:Nat):Turn P w K tg (Itr lo n) [it] it (fun i h=>IsRangeIter h it (lo+(i:Nat)*1) ((n:Int) - (i:Nat)) 1) where
 mem:=by simp
 obj:=fun i h st b hb=>by
  have e:b=it:=by simpa using hb
  subst e
  exact ⟨_,st,fun v z=>by
   have z':Data.fields _=Data.cell v:=z
   cases z'⟩
 keep:=fun i h h' st k=>k it (by simp) _ st
 item:=by
  intro X hP hw hK hc i pins s σ H E I hf st hg
  subst hP hw hK
  obtain ⟨f0,f1,f2,f3,f4,f5⟩:=hf it (by simp)
  have W:=Walks.range (prog:=X.prog) (w:=X.w) (I.ok.hd hc) it lo 1 n
  refine W.item i s _ _ hg st fun v h' tk hv st' kk=>?_
  obtain ⟨t,rfl⟩:=hv
  have I1:Inv X pins σ H { s with heap:=h',toks:=tk }:=I.turned (fun b o hb e=>kk b o (by simpa using hb) e) f0 f1 f3 f4 f5
  refine ⟨_,rfl,wy (s:={ s with heap:=h',toks:=tk }) (n:="range_iterator") st' rfl rfl (by decide) ⟨.int (lo+i),H,I1,⟨t,?_⟩,⟨rfl,rfl⟩,st',fun b hb=>(hf b hb).1⟩⟩
  rw [Int.mul_one]
 done:=by
  intro X hP hw hK hc i pins s σ H E I hf st hg
  subst hP hw hK
  obtain ⟨f0,f1,f2,f3,f4,f5⟩:=hf it (by simp)
  exact wpAny_pyNext_range_end (I.ok.hd hc) st (by have:n≤i:=hg;omega) fun h' eb=>⟨rfl,I.turned (t':=s.toks) (fun b o hb e=>eb b o hb e) f0 f1 f3 f4 f5⟩
 self:=fun _ _ _ _ _ st h=>wpAny_pyIter_rangeiter st h
end L2
namespace L2
open PySem PySem.Spec PyProof.Rows
section
variable {X:Cx} {tg:Expr}
def iList (K:PySem.W.Frag) (tl:TE):TI:=fun σ H R=>tl σ H fun x H1=>∃a,x=.ref a∧(∃xs,SqL K H1 a xs)∧R (Itl K a) H1
def iTup (K:PySem.W.Frag) (tl:TE):TI:=fun σ H R=>tl σ H fun x H1=>∃a,x=.ref a∧(∃xs,SqT K H1 a xs)∧R (Itt K a) H1
theorem Nz {l:Expr} {tl:TE} (hl:PE X l tl):PI X tg l (iList X.K tl):=by
 intro pins s σ H R I h
 refine thn (hl pins s σ H _ I h) fun v s1 ⟨x,H1,I1,r1,q1⟩=>?_
 obtain ⟨a,e,⟨xs,hq⟩,q⟩:=q1
 subst e
 cases r1
 obtain ⟨its,rv,p,hz⟩:=I1.list hq
 refine wpAny_pyIter_list p.isList ?_
 refine ⟨s1.heap.objs.size,[s1.heap.objs.size],_,_,H1,rfl,I1.kept (t':=s1.toks) fun b o e=>Heap.get?_push_of_some _ e,Hq a _,⟨_,Heap.get?_push_size _ rfl,rfl,rfl⟩,fun b hb=>?_,q⟩
 have e:b=s1.heap.objs.size:=by simpa using hb
 subst e
 exact I1.Bz (Nat.le_refl _) (I1.hok.fresh (Nat.le_refl _))
theorem pi_tup {l:Expr} {tl:TE} (hl:PE X l tl):PI X tg l (iTup X.K tl):=by
 intro pins s σ H R I h
 refine thn (hl pins s σ H _ I h) fun v s1 ⟨x,H1,I1,r1,q1⟩=>?_
 obtain ⟨a,e,⟨xs,hq⟩,q⟩:=q1
 subst e
 cases r1
 obtain ⟨its,rv,p,hz⟩:=I1.tuple hq
 refine wpAny_pyIter_tuple (show s1.heap.IsTuple a its.toArray from p) ?_
 refine ⟨s1.heap.objs.size,[s1.heap.objs.size],_,_,H1,rfl,I1.kept (t':=s1.toks) fun b o e=>Heap.get?_push_of_some _ e,De a _,⟨_,Heap.get?_push_size _ rfl,rfl,rfl⟩,fun b hb=>?_,q⟩
 have e:b=s1.heap.objs.size:=by simpa using hb
 subst e
 exact I1.Bz (Nat.le_refl _) (I1.hok.fresh (Nat.le_refl _))
theorem Jz {pins:List (Addr×Obj)} {σ:St} {H:Hp} {s:Shared} {R:It→Hp→Prop} {E:Value→Shared→Prop} {lo hi:Int} {t u v:Tok} {tk:Nat} (I:Inv X pins σ H s) (h1:-(2 ^ 62)≤lo) (h2:lo < 2 ^ 62) (h3:-(2 ^ 62)≤hi) (h4:hi < 2 ^ 62)
  (q:R (Itr lo (hi - lo).toNat) H):wpAny (model X.prog X.w) X.A (pyIter (.ref s.heap.objs.size)) (PIE X pins σ tg R) E { s with heap:=s.heap.push { cls:=.type "range",data:=.fields #[.int lo t,.int hi u,.int 1 v] },toks:=tk }:=by
 refine wpAny_pyIter_range (IsRange.new ..) (small_one h1 h2 h3 h4) ?_
 have I1:Inv X pins σ H { s with heap:=s.heap.push { cls:=.type "range",data:=.fields #[.int lo t,.int hi u,.int 1 v] },toks:=tk }:=I.kept fun b o e=>Heap.get?_push_of_some _ e
 refine ⟨(s.heap.push { cls:=.type "range",data:=.fields #[.int lo t,.int hi u,.int 1 v] }).objs.size,[(s.heap.push { cls:=.type "range",data:=.fields #[.int lo t,.int hi u,.int 1 v] }).objs.size],_,_,H,rfl,
  I1.kept (t':=tk) fun b o e=>Heap.get?_push_of_some _ e,Dc _ lo (hi - lo).toNat,?_,fun b hb=>?_,q⟩
 ·have e1:lo+((0:Nat):Int)*1=lo:=by simp
  have e2:(((hi - lo).toNat:Nat):Int) - ((0:Nat):Int)=Builtin.Range.rangeSize lo hi 1:=by rw [rangeSize_one];split <;> omega
  show IsRangeIter _ _ (lo+((0:Nat):Int)*1) ((((hi - lo).toNat:Nat):Int) - ((0:Nat):Int)) 1
  rw [e1,e2]
  exact Heap.get?_push_size _ rfl
 ·have e:b=(s.heap.push { cls:=.type "range",data:=.fields #[.int lo t,.int hi u,.int 1 v] }).objs.size:=by simpa using hb
  subst e
  exact I1.Bz (Nat.le_refl _) (I1.hok.fresh (Nat.le_refl _))
def iRng1 (ta:TA):TI:=fun σ H R=>ta σ H fun vs H1=>∃j:Int,vs=[.int j]∧-(2 ^ 62)≤j∧j < 2 ^ 62∧R (Itr 0 j.toNat) H1
def iRng2 (ta:TA):TI:=fun σ H R=>ta σ H fun vs H1=>∃i j:Int,vs=[.int i,.int j]∧(-(2 ^ 62)≤i∧i < 2 ^ 62∧-(2 ^ 62)≤j∧j < 2 ^ 62)∧R (Itr i (j - i).toNat) H1
theorem G5 {a:Expr} {ta:TA} {p pos:Pos} (hg:Gl X "range") (hm:X.mg "range"=none) (ha:PA X [a] ta) (hs:starEach [a] X.env=[(false,eval a X.env)]:=by rfl):PI X tg (.Call (.Name "range" p) [a] [] pos) (iRng1 ta):=by
 intro pins s σ H R I h
 refine Call_ (jw I hg hm boot_range (PyProof.Rows.callWith_type1 (thn (ha pos pins s σ H _ I h) fun us s1 ⟨vs,H1,I1,r1,q1⟩=>?_) hs rfl))
 obtain ⟨j,e,q1,q2,q⟩:=q1
 subst e
 cases r1 with
 | cons r rr=>
  cases rr
  obtain ⟨t,rfl⟩:=r
  exact call_range_1 (Jz I1 (by omega) (by omega) q1 q2 (by simpa using q))
def tFor (wi:TI) (g:TG) (tb:TS):TS:=fun D σ H=>wi σ H fun J H1=>∃W:Nat→Nat→St→Hp→Prop,(∃m,W 0 m σ H1)∧∀i m σ H,W i m σ H→
 (J.stop i H∧D.nx σ H)∨(J.go i H∧∃N:St→Hp→Prop,(∀σ' H',N σ' H'→∃m',m' < m∧W (i+1) m' σ' H')∧∀x H',J.yld i H x H'→g x σ H' fun σ2 H2=>tb { D with nx:=N,ct:=N,bk:=D.nx } σ2 H2)
noncomputable def vi (fp:List Addr) (h:Heap):List (Addr×Obj):=fp.filterMap fun b=>(h.get? b).map fun o=>(b,o)
theorem jc {fp:List Addr} {h:Heap} {b:Addr} {o:Obj} (hb:b∈fp) (e:h.get? b=some o):(b,o)∈vi fp h:=List.mem_filterMap.mpr ⟨b,hb,by rw [e];rfl⟩
theorem Gu {fp:List Addr} {h:Heap} {p:Addr×Obj} (hp:p∈vi fp h):p.1∈fp∧h.get? p.1=some p.2:=by
 obtain ⟨b,hb,e⟩:=List.mem_filterMap.mp hp
 cases q:h.get? b with
 | none=>rw [q] at e;cases e
 | some o=>
  rw [q] at e
  have e':(b,o)=p:=Option.some.inj e
  subst e'
  exact ⟨hb,q⟩
theorem Inv.pinned {pins:List (Addr×Obj)} {σ:St} {H:Hp} {s:Shared} {fp:List Addr} (I:Inv X pins σ H s) (hf:∀b∈fp,qo X pins H b) (ho:∀b∈fp,∃o,s.heap.get? b=some o∧∀v,o.data≠.cell v):Inv X (pins++vi fp s.heap) σ H s:=
 I.Ek fun p hp=>(List.mem_append.mp hp).elim (fun z=>I.pin p (List.mem_append_right _ z)) fun z=>by
  obtain ⟨hb,e⟩:=Gu z
  obtain ⟨f0,f1,f2,_⟩:=hf p.1 hb
  obtain ⟨o,e',d⟩:=ho p.1 hb
  rw [e] at e';cases e'
  exact ⟨e,f0,f1,f2,d⟩
theorem Inv.m7 {pins pl:List (Addr×Obj)} {σ:St} {H:Hp} {s:Shared} (I:Inv X (pins++pl) σ H s):Inv X pins σ H s:=I.Ek fun p hp=>I.pin p (List.mem_append_right _ (List.mem_append_left _ hp))
theorem ps_for {iter:Expr} {body:List Stmt} {wi:TI} {g:TG} {tb:TS} {pos:Pos} (hp:PassesOwn (model X.prog X.w) X.A X.env X.xe) (hc:X.calm=true) (hi:PI X tg iter wi) (hg:PG X tg g) (hb:PSs X body tb)
  (hs:∀x,foldedSetIterable iter X.env x=pure x:=by intro _;rfl):PS X (.For tg iter body [] pos) (tFor wi g tb):=by
 intro pins s σ H D I h
 refine wpAny_For (thn (hi pins s σ H _ I h) fun v s1 h1=>thn h1 fun itv s2 h2=>?_) hs
 obtain ⟨it,fp,tn,J,H2,e,I2,T,st2,f2,W,⟨m0,w0⟩,turn⟩:=h2
 subst e
 have stat:∀{H':Hp},(∀b∈fp,H' b=none)→∀b∈fp,qo X pins H' b:=fun hn b hb=>⟨hn b hb,(f2 b hb).2⟩
 refine codeAny_forLoop_any (fun n s'=>∃i σ' H',Inv X pins σ' H' s'∧tn i s'.heap∧(∀b∈fp,H' b=none)∧W i n σ' H') ?_ m0 ⟨0,σ,H2,I2,st2,fun b hb=>(f2 b hb).1,w0⟩
 rintro n s3 ⟨i,σ3,H3,I3,st3,fr3,w3⟩
 rcases turn i n σ3 H3 w3 with ⟨stop,qn⟩ | ⟨go,N,hN,step⟩
 ·refine wpAny_passesOwn hp (thn (T.done X rfl rfl rfl hc i pins s3 σ3 H3 X.xe I3 (stat fr3) st3 stop) fun r s4 ⟨hr,I4⟩=>?_)
  subst hr
  exact wpAny_execs_nil ⟨σ3,H3,I4,qn⟩
 ·refine wpAny_passesOwn hp (thn (T.item X rfl rfl rfl hc i pins s3 σ3 H3 X.xe I3 (stat fr3) st3 go) fun r s4 ⟨u,hr,h4⟩=>?_)
  subst hr
  refine wpAny_passesOwn hp (thn h4 fun _ s5 ⟨x,H5,I5,r5,y5,st5,fr5⟩=>?_)
  have I5':=I5.pinned (stat fr5) (T.obj _ _ st5)
  refine wpAny_passesOwn hp (thn (hg _ s5 σ3 H5 x u _ I5' r5 (step x H5 y5)) fun _ s6 ⟨σ6,H6,I6,q6⟩=>?_)
  refine wpAny_passesOwn hp (thn (hb _ s6 σ6 H6 _ I6 q6) fun f s7 q7=>?_)
  have again:∀{σ7:St} {H7:Hp},Inv X (pins++vi fp s5.heap) σ7 H7 s7→N σ7 H7→∃m,m < n∧∃i σ' H',Inv X pins σ' H' s7∧tn i s7.heap∧(∀b∈fp,H' b=none)∧W i m σ' H':=fun {σ7 H7} I7 n7=>by
   obtain ⟨m',hm,w7⟩:=hN σ7 H7 n7
   refine ⟨m',hm,i+1,σ7,H7,I7.m7,T.keep _ _ _ st5 fun b hb o e=>(I7.pin (b,o) (List.mem_append_right _ (List.mem_append_right _ (jc hb e)))).1,fun b hb=>?_,w7⟩
   obtain ⟨o,e,d⟩:=T.obj _ _ st5 b hb
   exact (I7.pin (b,o) (List.mem_append_right _ (List.mem_append_right _ (jc hb e)))).2.1
  cases f with
  | next=>obtain ⟨σ7,H7,I7,n7⟩:=q7;exact again I7 n7
  | cont=>obtain ⟨σ7,H7,I7,n7⟩:=q7;exact again I7 n7
  | brk=>obtain ⟨σ7,H7,I7,q7⟩:=q7;exact ⟨σ7,H7,I7.m7,q7⟩
  | ret v=>obtain ⟨x7,σ7,H7,I7,r7,q7⟩:=q7;exact ⟨x7,σ7,H7,I7.m7,r7,q7⟩
end
theorem Jy {K:PySem.W.Frag} {a:Addr} {xs:List V} {g:TG} {tb:TS} {D:Ends} {σ:St} {H:Hp} (Pv:Nat→St→Hp→Prop) (h0:Pv 0 σ H) (hl:∀i σ H,i≤xs.length→Pv i σ H→SqL K H a xs)
  (hs:∀i x σ H,xs[i]?=some x→Pv i σ H→g x σ H fun σ2 H2=>tb { D with nx:=Pv (i+1),ct:=Pv (i+1),bk:=D.nx } σ2 H2) (hd:∀σ H,Pv xs.length σ H→D.nx σ H):
  ∃W:Nat→Nat→St→Hp→Prop,(∃m,W 0 m σ H)∧∀i m σ H,W i m σ H→
   ((Itl K a).stop i H∧D.nx σ H)∨((Itl K a).go i H∧∃N:St→Hp→Prop,(∀σ' H',N σ' H'→∃m',m' < m∧W (i+1) m' σ' H')∧∀x H',(Itl K a).yld i H x H'→g x σ H' fun σ2 H2=>tb { D with nx:=N,ct:=N,bk:=D.nx } σ2 H2):=by
 refine ⟨fun i m σ H=>m=xs.length - i∧i≤xs.length∧Pv i σ H,⟨xs.length,by simp,Nat.zero_le _,h0⟩,?_⟩
 rintro i m σ H ⟨rfl,hi,p⟩
 have q:=hl i σ H hi p
 by_cases hlt:i < xs.length
 ·refine .inr ⟨⟨xs,xs[i],q,by simp [hlt]⟩,Pv (i+1),fun σ' H' p'=>⟨xs.length - (i+1),by omega,rfl,hlt,p'⟩,fun x H' y=>?_⟩
  obtain ⟨e,y⟩:=y
  subst e
  exact hs i x σ _ (y xs q) p
 ·have e:i=xs.length:=by omega
  subst e
  exact .inl ⟨⟨xs,q,Nat.le_refl _⟩,hd σ H p⟩
theorem Nn {K:PySem.W.Frag} {a:Addr} {xs:List V} {g:TG} {tb:TS} {D:Ends} {σ:St} {H:Hp} (Pv:Nat→St→Hp→Prop) (h0:Pv 0 σ H) (hl:∀i σ H,i≤xs.length→Pv i σ H→SqT K H a xs)
  (hs:∀i x σ H,xs[i]?=some x→Pv i σ H→g x σ H fun σ2 H2=>tb { D with nx:=Pv (i+1),ct:=Pv (i+1),bk:=D.nx } σ2 H2) (hd:∀σ H,Pv xs.length σ H→D.nx σ H):
  ∃W:Nat→Nat→St→Hp→Prop,(∃m,W 0 m σ H)∧∀i m σ H,W i m σ H→
   ((Itt K a).stop i H∧D.nx σ H)∨((Itt K a).go i H∧∃N:St→Hp→Prop,(∀σ' H',N σ' H'→∃m',m' < m∧W (i+1) m' σ' H')∧∀x H',(Itt K a).yld i H x H'→g x σ H' fun σ2 H2=>tb { D with nx:=N,ct:=N,bk:=D.nx } σ2 H2):=by
 refine ⟨fun i m σ H=>m=xs.length - i∧i≤xs.length∧Pv i σ H,⟨xs.length,by simp,Nat.zero_le _,h0⟩,?_⟩
 rintro i m σ H ⟨rfl,hi,p⟩
 have q:=hl i σ H hi p
 by_cases hlt:i < xs.length
 ·refine .inr ⟨⟨xs,xs[i],q,by simp [hlt]⟩,Pv (i+1),fun σ' H' p'=>⟨xs.length - (i+1),by omega,rfl,hlt,p'⟩,fun x H' y=>?_⟩
  obtain ⟨e,y⟩:=y
  subst e
  exact hs i x σ _ (y xs q) p
 ·have e:i=xs.length:=by omega
  subst e
  exact .inl ⟨⟨xs,q,Nat.le_refl _⟩,hd σ H p⟩
theorem Fz {lo:Int} {n:Nat} {g:TG} {tb:TS} {D:Ends} {σ:St} {H:Hp} (Pv:Nat→St→Hp→Prop) (h0:Pv 0 σ H)
  (hs:∀i σ H,i < n→Pv i σ H→g (.int (lo+i)) σ H fun σ2 H2=>tb { D with nx:=Pv (i+1),ct:=Pv (i+1),bk:=D.nx } σ2 H2) (hd:∀σ H,Pv n σ H→D.nx σ H):
  ∃W:Nat→Nat→St→Hp→Prop,(∃m,W 0 m σ H)∧∀i m σ H,W i m σ H→
   ((Itr lo n).stop i H∧D.nx σ H)∨((Itr lo n).go i H∧∃N:St→Hp→Prop,(∀σ' H',N σ' H'→∃m',m' < m∧W (i+1) m' σ' H')∧∀x H',(Itr lo n).yld i H x H'→g x σ H' fun σ2 H2=>tb { D with nx:=N,ct:=N,bk:=D.nx } σ2 H2):=by
 refine ⟨fun i m σ H=>m=n - i∧i≤n∧Pv i σ H,⟨n,by simp,Nat.zero_le _,h0⟩,?_⟩
 rintro i m σ H ⟨rfl,hi,p⟩
 by_cases hlt:i < n
 ·refine .inr ⟨hlt,Pv (i+1),fun σ' H' p'=>⟨n - (i+1),by omega,rfl,hlt,p'⟩,fun x H' y=>?_⟩
  obtain ⟨e,y⟩:=y
  subst e y
  exact hs i σ _ hlt p
 ·have e:i=n:=by omega
  subst e
  exact .inl ⟨Nat.le_refl _,hd σ H p⟩
theorem j5 {c:TT} {tb:TS} {D:Ends} {σ:St} {H:Hp} (Pv:St→Hp→Prop) (μ:St→Hp→Nat) (h0:Pv σ H)
  (hs:∀σ H,Pv σ H→c σ H fun b H1=>if b=true then tb { D with nx:=fun σ' H'=>Pv σ' H'∧μ σ' H' < μ σ H,ct:=fun σ' H'=>Pv σ' H'∧μ σ' H' < μ σ H,bk:=D.nx } σ H1 else D.nx σ H1)
  (mono:∀σ H Q Q',(∀b H1,Q b H1→Q' b H1)→c σ H Q→c σ H Q'):Hw c tb D σ H:=by
 refine ⟨fun m σ H=>m=μ σ H∧Pv σ H,⟨_,rfl,h0⟩,?_⟩
 rintro m σ H ⟨rfl,p⟩
 refine mono σ H _ _ (fun b H1 q=>?_) (hs σ H p)
 cases b with
 | true=>exact ⟨_,fun σ' H' ⟨p',l⟩=>⟨_,l,rfl,p'⟩,q⟩
 | false=>exact q
end L2
namespace L2
open PySem PySem.Spec PyProof.Rows
abbrev R2:=V→V→Hp→VK→Prop
def OpR (X:Cx) (f:Value→Value→Sem Value) (r:R2):Prop:=
 ∀(pins:List (Addr×Obj)) (s:Shared) (σ:St) (H:Hp) (x y:V) (v u:Value) (Q:VK),Inv X pins σ H s→RelV x v→RelV y u→r x y H Q→
  wpAny (model X.prog X.w) X.A (f v u) (EP X pins σ Q) X.xe s
def UnR (X:Cx) (f:Value→Sem Value) (r:V→Hp→VK→Prop):Prop:=
 ∀(pins:List (Addr×Obj)) (s:Shared) (σ:St) (H:Hp) (x:V) (v:Value) (Q:VK),Inv X pins σ H s→RelV x v→r x H Q→
  wpAny (model X.prog X.w) X.A (f v) (EP X pins σ Q) X.xe s
def gj (X:Cx) (f:Value) (r:List V→Hp→VK→Prop):Prop:=
 ∀(pins:List (Addr×Obj)) (s:Shared) (σ:St) (H:Hp) (xs:List V) (us:List Value) (Q:VK),Inv X pins σ H s→Vals xs us→r xs H Q→
  wpAny (model X.prog X.w) X.A (call f us) (EP X pins σ Q) X.xe s
def tOp (r:R2) (ta tb:TE):TE:=fun σ H Q=>ta σ H fun x H1=>tb σ H1 fun y H2=>r x y H2 Q
def tUn (r:V→Hp→VK→Prop) (ta:TE):TE:=fun σ H Q=>ta σ H fun x H1=>r x H1 Q
def rI (C:Int→Int→Prop) (g:Int→Int→V):R2:=fun x y H Q=>∃i j,x=.int i∧y=.int j∧C i j∧Q (g i j) H
def rI0 (g:Int→Int→V):R2:=fun x y H Q=>∃i j,x=.int i∧y=.int j∧Q (g i j) H
def rU (g:Int→V):V→Hp→VK→Prop:=fun x H Q=>∃i,x=.int i∧Q (g i) H
section
variable {X:Cx} {a b c:Expr} {ta tb tc:TE} {pos:Pos}
theorem binT (ha:PE X a ta) (hb:PE X b tb) {pins:List (Addr×Obj)} {s:Shared} {σ:St} {H:Hp} {R:V→V→Hp→Prop} (I:Inv X pins σ H s)
  (h:ta σ H fun x H1=>tb σ H1 fun y H2=>R x y H2) {Q:Value→Shared→Prop} {f:Value→Value→Sem Value}
  (hf:∀v u s2 x y H2,Inv X pins σ H2 s2→RelV x v→RelV y u→R x y H2→wpAny (model X.prog X.w) X.A (f v u) Q X.xe s2):
  wpAny (model X.prog X.w) X.A (eval a X.env) (fun v s₁=>wpAny (model X.prog X.w) X.A (eval b X.env) (fun u s₂=>wpAny (model X.prog X.w) X.A (f v u) Q X.xe s₂) X.xe s₁) X.xe s:=by
 refine thn (ha pins s σ H _ I h) fun v s1 ⟨x,H1,I1,r1,q1⟩=>?_
 refine thn (hb pins s1 σ H1 _ I1 q1) fun u s2 ⟨y,H2,I2,r2,q2⟩=>?_
 exact hf v u s2 x y H2 I2 r1 r2 q2
theorem pe_op {op:Operator} {r:R2} (ho:OpR X (binaryOp op) r) (ha:PE X a ta) (hb:PE X b tb):PE X (.BinOp a op b pos) (tOp r ta tb):=by
 intro pins s σ H Q I h
 exact wpAny_BinOp (binT ha hb I h fun v u s2 x y H2 I2 rx ry q=>ho pins s2 σ H2 x y v u Q I2 rx ry q)
theorem pe_un {op:UnaryOp} {r:V→Hp→VK→Prop} (ho:UnR X (unaryOp op) r) (ha:PE X a ta):PE X (.UnaryOp op a pos) (tUn r ta):=by
 intro pins s σ H Q I h
 exact UnaryOp_ (thn (ha pins s σ H _ I h) fun v s1 ⟨x,H1,I1,r1,q1⟩=>ho pins s1 σ H1 x v Q I1 r1 q1)
theorem opI {f:Value→Value→Sem Value} {C:Int→Int→Prop} {g:Int→Int→Int}
  (rule:∀(i j:Int) (t u:Tok) (s:Shared) (Q:Value→Shared→Prop) (E:Value→Shared→Prop),C i j→Q (.int (g i j) s.toks) { s with toks:=s.toks+1 }→wpAny (model X.prog X.w) X.A (f (.int i t) (.int j u)) Q E s):
  OpR X f (rI C fun i j=>.int (g i j)):=by
 intro pins s σ H x y v u Q I rx ry h
 obtain ⟨i,j,rfl,rfl,hc,q⟩:=h
 obtain ⟨t,rfl⟩:=rx
 obtain ⟨t',rfl⟩:=ry
 exact rule i j t t' s _ _ hc ⟨.int (g i j),H,I.tok _,⟨_,rfl⟩,q⟩
theorem opI0 {f:Value→Value→Sem Value} {g:Int→Int→Int}
  (rule:∀(i j:Int) (t u:Tok) (s:Shared) (Q:Value→Shared→Prop) (E:Value→Shared→Prop),Q (.int (g i j) s.toks) { s with toks:=s.toks+1 }→wpAny (model X.prog X.w) X.A (f (.int i t) (.int j u)) Q E s):
  OpR X f (rI0 fun i j=>.int (g i j)):=by
 intro pins s σ H x y v u Q I rx ry h
 obtain ⟨i,j,rfl,rfl,q⟩:=h
 obtain ⟨t,rfl⟩:=rx
 obtain ⟨t',rfl⟩:=ry
 exact rule i j t t' s _ _ ⟨.int (g i j),H,I.tok _,⟨_,rfl⟩,q⟩
theorem opB0 {f:Value→Value→Sem Value} {g:Int→Int→Bool}
  (rule:∀(i j:Int) (t u:Tok) (s:Shared) (Q:Value→Shared→Prop) (E:Value→Shared→Prop),Q (.bool (g i j)) s→wpAny (model X.prog X.w) X.A (f (.int i t) (.int j u)) Q E s):
  OpR X f (rI0 fun i j=>.bl (g i j)):=by
 intro pins s σ H x y v u Q I rx ry h
 obtain ⟨i,j,rfl,rfl,q⟩:=h
 obtain ⟨t,rfl⟩:=rx
 obtain ⟨t',rfl⟩:=ry
 exact rule i j t t' s _ _ ⟨.bl (g i j),H,I,rfl,q⟩
def ox (i j:Int):Prop:=0 < j∧j < 1073741824
def CPow (i j:Int):Prop:=0≤j∧j≤1000000∧i.natAbs < 2 ^ 64
def CMul (i j:Int):Prop:=(-(2 ^ 64) < i∧i < 2 ^ 64)∨(-(2 ^ 64) < j∧j < 2 ^ 64)
theorem CMul.ok {i j:Int} (h:CMul i j):IntMulOk i j:=by
 rcases h with ⟨h1,h2⟩ | ⟨h1,h2⟩
 ·exact .of_left (intBits_le_64 h1 h2)
 ·exact .of_right (intBits_le_64 h1 h2)
theorem op_add:OpR X (binaryOp .Add) (rI0 fun i j=>.int (i+j)):=opI0 fun _ _ _ _ _ _ _ q=>add_int q
theorem op_sub:OpR X (binaryOp .Sub) (rI0 fun i j=>.int (i - j)):=opI0 fun _ _ _ _ _ _ _ q=>sub_int q
theorem op_mul:OpR X (binaryOp .Mult) (rI CMul fun i j=>.int (i*j)):=opI fun _ _ _ _ _ _ _ hc q=>mul_int q hc.ok
theorem Mi:OpR X (binaryOp .FloorDiv) (rI ox fun i j=>.int (i / j)):=opI fun i j _ _ _ _ _ hc q=>by
 have h1:(0:Int) < j:=hc.1
 have h2:j < 1073741824:=hc.2
 exact floordiv_int (by omega) (by rw [Int.fdiv_eq_ediv_of_nonneg i (by omega)];exact q) (.inl (PyProof.noPylong_small (by omega)))
theorem op_mod:OpR X (binaryOp .Mod) (rI (fun _ j=>0 < j) fun i j=>.int (i % j)):=opI fun i j _ _ _ _ _ hc q=>by
 have h1:(0:Int) < j:=hc
 exact mod_int' (by omega) (by rw [Int.fmod_eq_emod_of_nonneg i (by omega)];exact q)
theorem op_pow:OpR X (binaryOp .Pow) (rI CPow fun i j=>.int (i ^ j.toNat)):=opI fun _ _ _ _ _ _ _ hc q=>pow_int_small hc.1 hc.2.1 hc.2.2 q
theorem unI {f:Value→Sem Value} {g:Int→Int}
  (rule:∀(i:Int) (t:Tok) (s:Shared) (Q:Value→Shared→Prop) (E:Value→Shared→Prop),Q (.int (g i) s.toks) { s with toks:=s.toks+1 }→wpAny (model X.prog X.w) X.A (f (.int i t)) Q E s):
  UnR X f (rU fun i=>.int (g i)):=by
 intro pins s σ H x v Q I rx h
 obtain ⟨i,rfl,q⟩:=h
 obtain ⟨t,rfl⟩:=rx
 exact rule i t s _ _ ⟨.int (g i),H,I.tok _,⟨_,rfl⟩,q⟩
theorem un_neg:UnR X (unaryOp .USub) (rU fun i=>.int (-i)):=unI fun _ _ _ _ _ q=>neg_int q
end
noncomputable def scal:V→V→Bool
 | .non,.non=>true | .non,.int _=>true | .int _,.non=>true | .non,.bl _=>true | .bl _,.non=>true | .non,.str _=>true | .str _,.non=>true
 | .int _,.int _=>true | .bl _,.bl _=>true | .str _,.str _=>true | .byt _,.byt _=>true
 | .int _,.str _=>true | .str _,.int _=>true | .bl _,.str _=>true | .str _,.bl _=>true
 | _,_=>false
def rEq:R2:=fun x y H Q=>scal x y=true∧Q (.bl (decide (x=y))) H
def rNe:R2:=fun x y H Q=>scal x y=true∧Q (.bl (!decide (x=y))) H
theorem Ea {i j:Int}:decide (V.int i=V.int j)=(i==j):=by
 rw [Bool.eq_iff_iff]
 simp
theorem Jx {i j:Bool}:decide (V.bl i=V.bl j)=(i==j):=by
 rw [Bool.eq_iff_iff]
 simp
theorem Fq {i j:Str}:decide (V.str i=V.str j)=(i==j):=by
 rw [Bool.eq_iff_iff]
 simp
theorem Ex {i j:Array UInt8}:decide (V.byt i=V.byt j)=(i.toList==j.toList):=by
 rw [Bool.eq_iff_iff]
 cases i
 cases j
 simp
section
variable {X:Cx} {a b c:Expr} {ta tb tc:TE} {pos:Pos}
theorem bu {pins:List (Addr×Obj)} {σ:St} {H:Hp} {s:Shared} {Q:VK} {k k':Bool} (I:Inv X pins σ H s) (q:Q (.bl k) H) (e:k=k'):EP X pins σ Q (.bool k') s:=by
 subst e
 exact ⟨.bl k,H,I,rfl,q⟩
theorem op_eq:OpR X (compareOp .Eq) rEq:=by
 intro pins s σ H x y v u Q I rx ry h
 obtain ⟨hs,q⟩:=h
 cases x with
 | non=>
  cases rx
  cases y with
  | non=>cases ry;exact PySem.EqNone.eq_none_none (bu I q (by simp))
  | bl j=>cases ry;exact PySem.EqNone.eq_none_bool (bu I q (by simp))
  | int j=>obtain ⟨t',rfl⟩:=ry;exact PySem.EqNone.eq_none_int (bu I q (by simp))
  | str j=>obtain ⟨t',rfl⟩:=ry;exact PySem.EqNone.eq_none_str (bu I q (by simp))
  | _=>exact absurd (show false=true from hs) Bool.false_ne_true
 | bl i=>
  cases rx
  cases y with
  | non=>cases ry;exact PySem.EqNone.eq_bool_none (bu I q (by simp))
  | bl j=>cases ry;exact eq_bool (bu I q Jx)
  | str j=>obtain ⟨t',rfl⟩:=ry;exact PySem.EqMixed.eq_bool_str (bu I q (by simp))
  | _=>exact absurd (show false=true from hs) Bool.false_ne_true
 | int i=>
  obtain ⟨t,rfl⟩:=rx
  cases y with
  | non=>cases ry;exact PySem.EqNone.eq_int_none (bu I q (by simp))
  | int j=>obtain ⟨t',rfl⟩:=ry;exact eq_int (bu I q Ea)
  | str j=>obtain ⟨t',rfl⟩:=ry;exact PySem.EqMixed.eq_int_str (bu I q (by simp))
  | _=>exact absurd (show false=true from hs) Bool.false_ne_true
 | str i=>
  obtain ⟨t,rfl⟩:=rx
  cases y with
  | non=>cases ry;exact PySem.EqNone.eq_str_none (bu I q (by simp))
  | bl j=>cases ry;exact PySem.EqMixed.eq_str_bool (bu I q (by simp))
  | int j=>obtain ⟨t',rfl⟩:=ry;exact PySem.EqMixed.eq_str_int (bu I q (by simp))
  | str j=>obtain ⟨t',rfl⟩:=ry;exact eq_str (bu I q Fq)
  | _=>exact absurd (show false=true from hs) Bool.false_ne_true
 | byt i=>
  obtain ⟨t,rfl⟩:=rx
  cases y with
  | byt j=>obtain ⟨t',rfl⟩:=ry;exact PySem.W.eq_bytes (bu I q Ex)
  | _=>exact absurd (show false=true from hs) Bool.false_ne_true
 | _=>cases y <;> exact absurd (show false=true from hs) Bool.false_ne_true
theorem Af:OpR X (compareOp .NotEq) rNe:=by
 intro pins s σ H x y v u Q I rx ry h
 obtain ⟨hs,q⟩:=h
 cases x with
 | non=>
  cases rx
  cases y with
  | non=>cases ry;exact PySem.EqNone.ne_none_none (bu I q (by simp))
  | bl j=>cases ry;exact PySem.EqNone.ne_none_bool (bu I q (by simp))
  | int j=>obtain ⟨t',rfl⟩:=ry;exact PySem.EqNone.ne_none_int (bu I q (by simp))
  | str j=>obtain ⟨t',rfl⟩:=ry;exact PySem.EqNone.ne_none_str (bu I q (by simp))
  | _=>exact absurd (show false=true from hs) Bool.false_ne_true
 | bl i=>
  cases rx
  cases y with
  | non=>cases ry;exact PySem.EqNone.ne_bool_none (bu I q (by simp))
  | bl j=>cases ry;exact ne_bool (bu I q (congrArg not Jx))
  | str j=>obtain ⟨t',rfl⟩:=ry;exact PySem.EqMixed.ne_bool_str (bu I q (by simp))
  | _=>exact absurd (show false=true from hs) Bool.false_ne_true
 | int i=>
  obtain ⟨t,rfl⟩:=rx
  cases y with
  | non=>cases ry;exact PySem.EqNone.ne_int_none (bu I q (by simp))
  | int j=>obtain ⟨t',rfl⟩:=ry;exact ne_int (bu I q (congrArg not Ea))
  | str j=>obtain ⟨t',rfl⟩:=ry;exact PySem.EqMixed.ne_int_str (bu I q (by simp))
  | _=>exact absurd (show false=true from hs) Bool.false_ne_true
 | str i=>
  obtain ⟨t,rfl⟩:=rx
  cases y with
  | non=>cases ry;exact PySem.EqNone.ne_str_none (bu I q (by simp))
  | bl j=>cases ry;exact PySem.EqMixed.ne_str_bool (bu I q (by simp))
  | int j=>obtain ⟨t',rfl⟩:=ry;exact PySem.EqMixed.ne_str_int (bu I q (by simp))
  | str j=>obtain ⟨t',rfl⟩:=ry;exact ne_str (bu I q (congrArg not Fq))
  | _=>exact absurd (show false=true from hs) Bool.false_ne_true
 | byt i=>
  obtain ⟨t,rfl⟩:=rx
  cases y with
  | byt j=>obtain ⟨t',rfl⟩:=ry;exact PySem.W.ne_bytes (bu I q (congrArg not Ex))
  | _=>exact absurd (show false=true from hs) Bool.false_ne_true
 | _=>cases y <;> exact absurd (show false=true from hs) Bool.false_ne_true
theorem op_lt:OpR X (compareOp .Lt) (rI0 fun i j=>.bl (decide (i < j))):=opB0 fun _ _ _ _ _ _ _ q=>lt_int q
theorem op_gt:OpR X (compareOp .Gt) (rI0 fun i j=>.bl (decide (j < i))):=opB0 fun _ _ _ _ _ _ _ q=>gt_int q
theorem nomark (b:Expr) {op:CmpOp} (h:op≠.In:=by decide) (h2:op≠.NotIn:=by decide):behindInMarks op b=false:=by
 have e1:(op==CmpOp.In)=false:=by cases op <;> first | rfl | exact absurd rfl h
 have e2:(op==CmpOp.NotIn)=false:=by cases op <;> first | rfl | exact absurd rfl h2
 cases b <;> simp [behindInMarks,e1,e2]
theorem yt {op:CmpOp} {r:R2} (ho:OpR X (compareOp op) r) (ha:PE X a ta) (hb:PE X b tb) (hm:behindInMarks op b=false):PE X (.Compare a [op] [b] pos) (tOp r ta tb):=by
 intro pins s σ H Q I h
 exact wpAny_Compare1 (binT ha hb I h fun v u s2 x y H2 I2 rx ry q=>ho pins s2 σ H2 x y v u Q I2 rx ry q) hm
def Bh (t:TE):TT:=fun σ H Q=>t σ H fun x H'=>∃k,x=.bl k∧Q k H'
theorem Ma {op:CmpOp} {r:R2} (ho:OpR X (compareOp op) r) (ha:PE X a ta) (hb:PE X b tb) (hm:behindInMarks op b=false):PT X (.Compare a [op] [b] pos) (Bh (tOp r ta tb)):=by
 intro pins s σ H Q I h
 refine wpAny_isTrue_Compare1 (thn (ha pins s σ H _ I h) fun v s1 ⟨x,H1,I1,r1,q1⟩=>thn (hb pins s1 σ H1 _ I1 q1) fun u s2 ⟨y,H2,I2,r2,q2⟩=>
  thn (ho pins s2 σ H2 x y v u _ I2 r1 r2 q2) fun c s3 ⟨z,H3,I3,r3,k,e,q3⟩=>?_) hm
 subst e
 cases r3
 exact wpAny_truthy_bool ⟨H3,I3,q3⟩
theorem vj:(sizeLine:Nat) < 2 ^ 63:=by rw [sizeLine_eq];decide
theorem Cq:OpR X (binaryOp .Add) (fun x y H Q=>∃i j,x=.str i∧y=.str j∧i.length+j.length≤sizeLine∧Q (.str (i++j)) H):=by
 intro pins s σ H x y v u Q I rx ry h
 obtain ⟨i,j,rfl,rfl,hz,q⟩:=h
 obtain ⟨t,rfl⟩:=rx
 obtain ⟨t',rfl⟩:=ry
 exact add_str (fun t' tk=>⟨.str (i++j),H,I.tok _,⟨_,rfl⟩,q⟩) hz
theorem vals1 {x:V} {us:List Value} (r:Vals [x] us):∃u,us=[u]∧RelV x u:=by
 cases r with
 | cons r1 r2=>cases r2;exact ⟨_,rfl,r1⟩
theorem vals2 {x y:V} {us:List Value} (r:Vals [x,y] us):∃u w',us=[u,w']∧RelV x u∧RelV y w':=by
 cases r with
 | cons r1 r2=>
  cases r2 with
  | cons r3 r4=>cases r4;exact ⟨_,_,rfl,r1,r3⟩
theorem G4:gj X (.type "int") (fun xs H Q=>(∃i,xs=[.int i]∧Q (.int i) H)∨∃k,xs=[.bl k]∧Q (.int (if k then 1 else 0)) H):=by
 intro pins s σ H xs us Q I r h
 rcases h with ⟨i,rfl,q⟩ | ⟨k,rfl,q⟩
 ·obtain ⟨u,rfl,t,rfl⟩:=vals1 r
  exact call_int_int ⟨.int i,H,I,⟨_,rfl⟩,q⟩
 ·obtain ⟨u,rfl,r1⟩:=vals1 r
  cases r1
  exact call_int_bool ⟨.int (if k then 1 else 0),H,I.tok _,⟨_,rfl⟩,q⟩
end
end L2
namespace L2
open PySem PySem.Spec PyProof.Rows
structure ObjM (h:Heap) (x dx C:Addr) (mA:Str→Option Value):Prop where
 obj:h.get? x=some (PySem.W.instObj C dx)
 ns:h.Ns1 dx mA
 ne:dx≠x
theorem Hk {h:Heap} {dx:Addr} {mA:Str→Option Value} (n:h.Ns1 dx mA):∃od,h.get? dx=some od∧∀name,PySem.W.lookIn name od=some (mA name):=by
 obtain ⟨o,es,ep,ho,hd,hk,_,hm⟩:=n
 refine ⟨o,ho,fun name=>?_⟩
 have e:=hm name
 unfold nsFind findBy at e
 rw [←Array.find?_toList] at e
 unfold PySem.W.lookIn
 rw [hd]
 dsimp only
 split
 ·rename_i y q
  rw [q] at e
  exact congrArg some e
 ·rename_i q
  rw [q] at e
  have a:es.toList.any (·.refKey)=false:=by
   rw [List.any_eq_false]
   intro y hy
   obtain ⟨z,t,hkey⟩:=hk y (Array.mem_toList_iff.mp hy)
   simp [DictEntry.refKey,hkey]
  have a':¬es.toList.any (·.refKey)=true:=by rw [a];exact Bool.false_ne_true
  rw [if_neg a']
  exact congrArg some e
theorem ObjM.look {h:Heap} {x dx C:Addr} {mA:Str→Option Value} (I:ObjM h x dx C mA):∃od,PySem.W.InstAt h x (PySem.W.instObj C dx) C (some od)∧∀name,PySem.W.lookIn name od=some (mA name):=
 let ⟨od,ho,hl⟩:=Hk I.ns
 ⟨od,⟨I.obj,rfl,rfl,ho⟩,hl⟩
section
variable {prog:Program} {w:World} {A:Around} {E:Value→Shared→Prop} {s:Shared} {K:PySem.W.Frag} {x dx C f:Addr} {mA:Str→Option Value} {name:Str} {v:Value}
end
theorem mf.some_of {v:V} {o:Option Value} (r:mf (some v) o):∃u,o=some u∧RelV v u:=by
 cases o with
 | none=>exact (show False from r).elim
 | some u=>exact ⟨u,rfl,r⟩
section
variable {P:Program} {w:World} {H H':Hp} {h h':Heap} {a C dx:Addr} {fs fs':List (Str×V)}
theorem Fb (hok:HOk P w H h) (e:H a=some (.ins C dx fs)):∃mA,ObjM h a dx C mA∧(∀f,mf (fs.lookup f) (mA f))∧PySem.Within mA (fs.map (·.1))∧fs.length≤1000∧H dx=some (.own a):=by
 obtain ⟨d,z,ne,ob,mA,n,r,q⟩:=(show bp P w H h a (.ins C dx fs) from hok a _ e)
 exact ⟨mA,⟨ob,n,ne⟩,r,q,z,d⟩
end
structure Cls (K:PySem.W.Frag) (C:Addr):Prop where
 pg:PySem.W.plainGet K C Str.empty=true
 hd:PySem.W.hasDictIn K C=true
 po:PySem.W.plainOver K C=true
 sa:PySem.W.findIn K (.ref C) "__setattr__"=some (some (.builtin "object.__setattr__"))
theorem Cls.get {K:PySem.W.Frag} {C:Addr} (c:Cls K C) (f:Str):PySem.W.plainGet K C f=true:=c.pg
section
variable {X:Cx} {pins:List (Addr×Obj)} {σ:St} {H:Hp} {s:Shared} {a C dx:Addr} {fs:List (Str×V)} {f:Str} {v:V} {A:Around} {E:Value→Shared→Prop}
end
section
variable {X:Cx} {o e value:Expr} {f:Str} {pos pos' tpos:Pos} {ta tv:TE}
end
section
variable {X:Cx} {pins:List (Addr×Obj)} {σ:St} {H:Hp} {s:Shared} {A:Around} {E:Value→Shared→Prop} {Q:Value→Shared→Prop} {c:Value} {b:Bool}
inductive oq (K:PySem.W.Frag) (H:Hp):V→Value→Prop where
 | non:oq K H .non (.type "NoneType")
 | bl (x:Bool):oq K H (.bl x) (.type "bool")
 | int (i:Int):oq K H (.int i) (.type "int")
 | str (x:Str):oq K H (.str x) (.type "str")
 | flt (x:UInt64):oq K H (.flt x) (.type "float")
 | lst {a:Addr} {xs:List V} (e:H a=some (.lst xs)):oq K H (.ref a) (.type "list")
 | frz {a:Addr} {o:Obj} {xs:List V} (e:H a=some (.frz o (.lst xs))):oq K H (.ref a) (.type "list")
 | tup {a:Addr} {xs:List V} (e:H a=some (.tup xs)):oq K H (.ref a) (.type "tuple")
 | dK {a:Addr} {kvs:List (Key×V)} (e:H a=some (.dK kvs)):oq K H (.ref a) (.type "dict")
 | dT {a:Addr} {kvs:List (List Key×V)} (e:H a=some (.dT kvs)):oq K H (.ref a) (.type "dict")
 | ins {a C dx:Addr} {fs:List (Str×V)} (e:H a=some (.ins C dx fs)) (cl:Cls K C) (ha:PySem.W.findIn K (.ref C) "__class__"=some (some (.builtin "object.__class__")))
   (hn:PySem.W.specialIn K (.builtin "object.__class__") "__get__"=some (some (.builtin "getset_descriptor.__get__"))) (htk:PySem.W.takesIn K (.builtin "object.__class__")=some true)
   (hm:PySem.W.mroIn K C (.type "object")=some true):oq K H (.ref a) (.ref C)
theorem Gd {x:V} {u t:Value} (I:Inv X pins σ H s) (rx:RelV x u) (ty:oq X.K H x t) (e:PySem.W.kitOne X.K t c=some b) (h:∀tk,Q (.bool b) { s with toks:=tk }):
  wpAny (model X.prog X.w) A (call (.builtin "isinstance") [u,c]) Q E s:=by
 cases ty with
 | non=>cases (show u=Value.none from rx);exact PySem.W.kia_one PySem.W.kitx_none I.kIn True.intro e (fun z=>nomatch z) h
 | bl y=>cases (show u=Value.bool y from rx);exact PySem.W.kia_one PySem.W.kitx_bool I.kIn True.intro e (fun z=>nomatch z) h
 | int i=>obtain ⟨t,q⟩:=(show ∃t,u=Value.int i t from rx);cases q;exact PySem.W.kia_one PySem.W.kitx_int I.kIn True.intro e (fun z=>nomatch z) h
 | str y=>obtain ⟨t,q⟩:=(show ∃t,u=Value.str y t from rx);cases q;exact PySem.W.kia_one PySem.W.kitx_str I.kIn True.intro e (fun z=>nomatch z) h
 | flt y=>obtain ⟨t,q⟩:=(show ∃t,u=Value.float y t from rx);cases q;exact PySem.W.kia_one PySem.W.kitx_float I.kIn True.intro e (fun z=>nomatch z) h
 | @lst a xs ea=>
  cases (show u=Value.ref a from rx)
  obtain ⟨_,_,n,_,h1⟩:=(show bp X.prog X.w H s.heap a (.lst xs) from I.hok a _ ea)
  exact PySem.W.kia_one PySem.W.kitx_list I.kIn ⟨_,h1,rfl⟩ e (fun z=>nomatch z) h
 | @frz a ob xs ea=>
  cases (show u=Value.ref a from rx)
  obtain ⟨_,_,_,n,_,h1⟩:=(show bp X.prog X.w H s.heap a (.frz ob (.lst xs)) from I.hok a _ ea)
  exact PySem.W.kia_one PySem.W.kitx_list I.kIn ⟨_,h1,rfl⟩ e (fun z=>nomatch z) h
 | @tup a xs ea=>
  cases (show u=Value.ref a from rx)
  obtain ⟨_,_,_,p⟩:=(show bp X.prog X.w H s.heap a (.tup xs) from I.hok a _ ea)
  obtain ⟨o,h1,h2,_⟩:=p
  exact PySem.W.kia_one PySem.W.kitx_tuple I.kIn ⟨o,h1,h2⟩ e (fun z=>nomatch z) h
 | @dK a kvs ea=>
  cases (show u=Value.ref a from rx)
  obtain ⟨_,_,vs,_,p⟩:=(show bp X.prog X.w H s.heap a (.dK kvs) from I.hok a _ ea)
  obtain ⟨o,es,ep,h1,h2,_⟩:=p
  exact PySem.W.kia_one PySem.W.kitx_dict I.kIn ⟨o,h1,h2.1⟩ e (fun z=>nomatch z) h
 | @dT a kvs ea=>
  cases (show u=Value.ref a from rx)
  obtain ⟨_,_,xs,_,o,es,ep,h1,h2,_⟩:=(show bp X.prog X.w H s.heap a (.dT kvs) from I.hok a _ ea)
  exact PySem.W.kia_one PySem.W.kitx_dict I.kIn ⟨o,h1,h2.1⟩ e (fun z=>nomatch z) h
 | @ins a C dx fs ea cl ha hn htk hm=>
  cases (show u=Value.ref a from rx)
  obtain ⟨mA,O,_⟩:=Fb I.hok ea
  obtain ⟨od,J,_⟩:=O.look
  exact PySem.W.kia_one (PySem.W.kitx_own (cl.get _) cl.hd ha hn htk hm) I.kIn J e (fun z=>nomatch z) h
end
end L2
namespace L2
open PySem PySem.Spec PyProof.Rows
structure gy (k:Nat) (A:Around):Prop where
 hd:A.handled=none
 dp:A.depth+3*k+5 < recursionLimit
 un:A.units+16*k+200 < cLine
theorem gy.mono {j k:Nat} {A:Around} (r:gy k A) (h:j≤k):gy j A:=⟨r.hd,by have:=r.dp;omega,by have:=r.un;omega⟩
theorem gy.deeper {k:Nat} {A:Around} (r:gy (k+1) A) (env:Env):gy k (A.deeper env):=
 ⟨r.hd,by have:=r.dp;show A.depth+1+3*k+5 < _;omega,by have:=r.un;show A.units+3+16*k+200 < _;omega⟩
theorem gy.depth {k:Nat} {A:Around} (r:gy k A):A.depth < recursionLimit:=by have:=r.dp;omega
theorem gy.units {k:Nat} {A:Around} (r:gy k A):A.units+64 < cLine:=by have:=r.un;omega
def tNil:TA:=fun _ H Q=>Q [] H
def tCons (ta:TE) (tr:TA):TA:=fun σ H Q=>ta σ H fun x H1=>tr σ H1 fun xs H2=>Q (x::xs) H2
section
variable {X:Cx} {e:Expr} {es:List Expr} {te:TE} {t:TA} {pos:Pos}
theorem J1:PA X [] tNil:=fun _ _ _ _ H Q I h=>Calls.spliced_nil ⟨[],H,I,.nil,h⟩
theorem ye (ha:PE X e te) (hr:PA X es t) (hs:starEach (e::es) X.env=(false,eval e X.env)::starEach es X.env:=by rfl):PA X (e::es) (tCons te t):=by
 intro pos pins s σ H Q I h
 rw [hs]
 show wpAny _ _ (spliced ((false,eval e X.env)::backTo pos (starEach es X.env))) _ _ s
 refine Calls.spliced_cons (thn (ha pins s σ H _ I h) fun u s1 ⟨x,H1,I1,r1,q1⟩=>?_)
 exact thn (hr pos pins s1 σ H1 _ I1 q1) fun us s2 ⟨xs,H2,I2,r2,q2⟩=>⟨x::xs,H2,I2,.cons r1 r2,q2⟩
def tTup (t:TA):TE:=fun σ H Q=>t σ H fun xs H1=>xs.length≤sizeLine∧∀p,H1 p=none→Q (.ref p) (upd H1 p (.tup xs))
def tLst (t:TA):TE:=fun σ H Q=>t σ H fun xs H1=>xs.length≤sizeLine∧∀p,H1 p=none→Q (.ref p) (upd H1 p (.lst xs))
theorem pe_tup {x1} (h:PA X es t):PE X (.Tuple es x1 pos) (tTup t):=by
 intro pins s σ H Q I hq
 refine wpAny_Tuple_spliced (thn (h pos pins s σ H _ I hq) fun us s1 ⟨xs,H1,I1,r,z,q⟩=>⟨by rw [←r.length];exact z,?_⟩)
 have hf:H1 s1.heap.objs.size=none:=I1.hok.fresh (Nat.le_refl _)
 refine ⟨.ref s1.heap.objs.size,upd H1 s1.heap.objs.size (.tup xs),I1.laid (t':=s1.toks) (fun b u e=>Heap.get?_push_of_some _ e) (Nat.le_refl _) ?_,rfl,q _ hf⟩
 exact ⟨z,us,r,⟨_,Heap.get?_push_size _ rfl,rfl,_,rfl,rfl⟩⟩
theorem pe_lst (h:PA X es t):PE X (.List es pos) (tLst t):=by
 intro pins s σ H Q I hq
 refine wpAny_List_spliced (thn (h pos pins s σ H _ I hq) fun us s1 ⟨xs,H1,I1,r,z,q⟩=>⟨by rw [←r.length];exact z,?_⟩)
 have hf:H1 s1.heap.objs.size=none:=I1.hok.fresh (Nat.le_refl _)
 refine ⟨.ref s1.heap.objs.size,upd H1 s1.heap.objs.size (.lst xs),I1.laid (t':=s1.toks) (fun b u e=>Heap.get?_push_of_some _ e) (Nat.le_refl _) ?_,rfl,q _ hf⟩
 exact ⟨z,us,0,r,Heap.get?_push_size _ rfl⟩
end
abbrev Sp:=List V→Hp→VK→XK→Prop
abbrev CXT:=List Env→Hp→Shared→XK→Value→Shared→Prop
structure Env0 (P:Program) (w:World) (K:PySem.W.Frag) (mg:Str→Option Value) (base:Heap) (A:Around) (outer:List Env) (s:Shared) (H:Hp):Prop where
 frames:A.frames=some outer
 mod:Mod K mg base
 bs:∀b o,base.get? b=some o→s.heap.get? b=some o∧H b=none
 bsz:base.objs.size≤s.heap.objs.size
 qk:s.heap.FunFrames base outer
 frf:∀b∈frs outer,H b=none
 hok:HOk P w H s.heap
 bare:AllBare s.gens
def CE (outer:List Env) (P:Program) (w:World) (H:Hp) (s:Shared) (Q:VK) (u:Value) (s':Shared):Prop:=
 ∃v H',s'.os=s.os∧AllBare s'.gens∧Un (frs outer) [] H H' s.heap s'.heap∧HOk P w H' s'.heap∧RelV v u∧Q v H'
def CR (CX:CXT) (outer:List Env) (P:Program) (w:World) (H:Hp) (s:Shared) (Q:VK) (E:XK) (r:Result) (s':Shared):Prop:=
 match r with
 | .ok (.ret u)=>CE outer P w H s Q u s'
 | .ok _=>False
 | .error e=>CX outer H s E e s'
structure n8 (P:Program) (w:World) (K:PySem.W.Frag) (mg:Str→Option Value) (base:Heap) (CX:CXT) (k:Nat) (f:Addr) (fd:FuncData) (ps:List Str) (sp:Sp):Prop where
 len:∀vs H Q E,sp vs H Q E→vs.length=ps.length
 run:∀(A:Around) (outer:List Env) (s:Shared) (H:Hp) (args:Args) (us:List Value) (vs:List V) (Q:VK) (E:XK),gy k A→Env0 P w K mg base A outer s H→BindsTo s fd args (ps.zip us)→Vals vs us→sp vs H Q E→
  codeAny (model P w) A (.call (.ref f) args) (CR CX outer P w H s Q E) s
theorem n8.mono {P:Program} {w:World} {K:PySem.W.Frag} {mg:Str→Option Value} {base:Heap} {CX:CXT} {j k:Nat} {f:Addr} {fd:FuncData} {ps:List Str} {sp:Sp} (F:n8 P w K mg base CX j f fd ps sp) (h:j≤k):
  n8 P w K mg base CX k f fd ps sp:=⟨F.len,fun A outer s H args us vs Q E hr=>F.run A outer s H args us vs Q E (hr.mono h)⟩
section
variable {X:Cx} {pins:List (Addr×Obj)} {σ:St} {H:Hp} {s s':Shared}
theorem Inv.env0 (I:Inv X pins σ H s):Env0 X.prog X.w X.K X.mg X.base X.A X.stack s H:=
 ⟨I.ok.frames,I.ok.mod,I.bs,Nat.le_trans I.ok.bsz I.sz,I.stack,I.Dq,I.hok,I.bare⟩
theorem Inv.after {Q:VK} {u:Value} (I:Inv X pins σ H s) (h:CE X.stack X.prog X.w H s Q u s'):EP X pins σ Q u s':=by
 obtain ⟨v,H',os,bare,un,hok,r,q⟩:=h
 obtain ⟨hh,g,d,t,os'⟩:=s'
 obtain rfl:os'=s.os:=os
 exact ⟨v,H',I.call (h':=hh) (g':=g) (d':=d) (t':=t) (ch:=[]) un hok bare (fun b z=>absurd z (by simp)),r,q⟩
end
def Lo (sp:Sp) (dvs:List V) (E:XK) (t:TA):TE:=fun σ H Q=>t σ H fun vs H1=>sp (vs++dvs) H1 Q E
def Binds (K:PySem.W.Frag) (fd:FuncData) (ps:List Str) (ds:List Value):Prop:=
 ∀(s:Shared) (us:List Value),K.In s.heap→(us++ds).length=ps.length→BindsTo s fd ⟨us,[]⟩ (ps.zip (us++ds))
theorem Binds.all {K:PySem.W.Frag} {fd:FuncData} {ps:List Str} (h:∀us:List Value,us.length=ps.length→bindArgs fd ⟨us,[]⟩=pure (ps.zip us)):Binds K fd ps []:=fun s us _ hl=>by
 rw [List.append_nil] at hl ⊢
 exact .of_eq (h us hl)
def Passes (CX:CXT) (X:Cx) (E:XK):Prop:=∀(pins:List (Addr×Obj)) (σ:St) (H:Hp) (s:Shared) (e:Value) (s':Shared),Inv X pins σ H s→CX X.stack H s E e s'→X.xe e s'
section
variable {X:Cx} {CX:CXT} {k:Nat} {f C:Addr} {fd:FuncData} {ps:List Str} {sp:Sp} {dvs:List V} {ds:List Value} {E:XK} {x m:Str} {p pos apos:Pos} {e o:Expr} {es:List Expr} {ta:TE} {t:TA}
theorem run_fn {pins:List (Addr×Obj)} {σ:St} {H:Hp} {s:Shared} {Q:VK} {us:List Value} {vs:List V} (F:n8 X.prog X.w X.K X.mg X.base CX k f fd ps sp) (hr:gy k X.A) (hb:Binds X.K fd ps ds) (hd:Vals dvs ds) (hx:Passes CX X E)
  (I:Inv X pins σ H s) (r:Vals vs us) (h:sp (vs++dvs) H Q E):wpAny (model X.prog X.w) X.A (call (.ref f) us) (EP X pins σ Q) X.xe s:=by
 have r2:Vals (vs++dvs) (us++ds):=r.append hd
 have hl:(us++ds).length=ps.length:=by rw [←r2.length];exact F.len _ _ _ _ h
 refine wpAny_call (codeAny_mono (F.run X.A X.stack s H ⟨us,[]⟩ (us++ds) (vs++dvs) Q E hr I.env0 (hb s us I.kIn hl) r2 h) fun r s' hq=>?_)
 cases r with
 | error e=>exact hx pins σ H s e s' I hq
 | ok fl=>
  cases fl with
  | ret u=>exact I.after hq
  | next=>exact False.elim hq
  | brk=>exact False.elim hq
  | cont=>exact False.elim hq
theorem M7 (F:n8 X.prog X.w X.K X.mg X.base CX k f fd ps sp) (hr:gy k X.A) (hg:Gl X x) (hm:X.mg x=some (.ref f)) (hk:PySem.W.keepIn X.K (.ref f)=true) (hb:Binds X.K fd ps ds) (hd:Vals dvs ds) (hx:Passes CX X E)
  (ha:PA X (e::es) t) (hdb:(x==("__debug__":Str))=false:=by decide) (he:starEach (e::es) X.env=(false,eval e X.env)::starEach es X.env:=by rfl) (hpl:(backTo pos (starEach es X.env)).any (·.1)=false:=by rfl):
  PE X (.Call (.Name x p) (e::es) [] pos) (Lo sp dvs E t):=by
 intro pins s σ H Q I h
 refine wpAny_Call_Name_kw (E3 I hg hm ?_ hdb)
 refine PySem.W.callWith_K (h₀:=X.base) I.ok.mod.kin hk (thn (ha pos pins s σ H _ I h) fun us s1 ⟨vs,H1,I1,r,q⟩=>⟨I1.kIn,?_⟩) he hpl
 exact run_fn F hr hb hd hx I1 r q
end
section
variable {X:Cx} {CX:CXT} {k:Nat} {f C:Addr} {fd:FuncData} {ps ks:List Str} {sp:Sp} {E:XK} {x m:Str} {p pos apos kpos:Pos} {e o:Expr} {es:List Expr} {kws:List Keyword} {te ta:TE} {t tk:TA} {nm:Option Str}
variable {g:List Value→List Value→List Value} {gV:List V→List V→List V}
end
structure az (N P:List Str) (sc:Scope):Prop where
 kind:sc.kind=.function
 co:sc.isCoroutine=false
 gen:sc.isGenerator=false
 nd:N.Nodup
 pre:N.take P.length=P
 par:∀x∈P,sc.names.lookup x=some .local∨sc.names.lookup x=some .cell
 nofree:∀y∈sc.names,y.2≠.free
theorem wu {kindOf:Str→Option NameKind} {x:Str}:∀{binds:List (Str×Value)} {m:Str→Option Value},(∀v,(x,v)∉binds)→bindL kindOf binds m x=m x
 | [],_,_=>rfl
 | (n,v)::r,m,h=>by
  unfold bindL
  rw [wu fun w hw=>h w (List.mem_cons_of_mem _ hw)]
  split
  ·have:x≠n:=by rintro rfl;exact h v List.mem_cons_self
   simp [this]
  ·rfl
theorem xg {kindOf:Str→Option NameKind} {x:Str}:∀{binds:List (Str×Value)} {m:Str→Option Value},(∀v,(x,v)∉binds)→bindC kindOf binds m x=m x
 | [],_,_=>rfl
 | (n,v)::r,m,h=>by
  unfold bindC
  rw [xg fun w hw=>h w (List.mem_cons_of_mem _ hw)]
  split
  ·rfl
  ·have:x≠n:=by rintro rfl;exact h v List.mem_cons_self
   simp [this]
theorem xa {kindOf:Str→Option NameKind} {x:Str} {v:Value}:∀{P:List Str} {vs:List Value} {i:Nat} {m:Str→Option Value},P.Nodup→P[i]?=some x→vs[i]?=some v→kindOf x=some .local→
  bindL kindOf (P.zip vs) m x=some v
 | [],_,_,_,_,h,_,_=>by simp at h
 | _::_,[],_,_,_,_,h,_=>by simp at h
 | p::P,w::vs,0,m,nd,h1,h2,hk=>by
  simp at h1 h2;subst h1;subst h2
  show bindL kindOf ((p,w)::P.zip vs) m p=_
  unfold bindL
  rw [wu fun v hv=>(List.nodup_cons.mp nd).1 (List.of_mem_zip hv).1,if_pos hk]
  simp
 | p::P,w::vs,i+1,m,nd,h1,h2,hk=>by
  show bindL kindOf ((p,w)::P.zip vs) m x=_
  unfold bindL
  exact xa (i:=i) (List.nodup_cons.mp nd).2 (by simpa using h1) (by simpa using h2) hk
theorem xq {kindOf:Str→Option NameKind} {x:Str} {v:Value}:∀{P:List Str} {vs:List Value} {i:Nat} {m:Str→Option Value},P.Nodup→P[i]?=some x→vs[i]?=some v→kindOf x≠some .local→
  bindC kindOf (P.zip vs) m x=some v
 | [],_,_,_,_,h,_,_=>by simp at h
 | _::_,[],_,_,_,_,h,_=>by simp at h
 | p::P,w::vs,0,m,nd,h1,h2,hk=>by
  simp at h1 h2;subst h1;subst h2
  show bindC kindOf ((p,w)::P.zip vs) m p=_
  unfold bindC
  rw [xg fun v hv=>(List.nodup_cons.mp nd).1 (List.of_mem_zip hv).1,if_neg hk]
  simp
 | p::P,w::vs,i+1,m,nd,h1,h2,hk=>by
  show bindC kindOf ((p,w)::P.zip vs) m x=_
  unfold bindC
  exact xq (i:=i) (List.nodup_cons.mp nd).2 (by simpa using h1) (by simpa using h2) hk
noncomputable def start (N:List Str) (vs:List V):St:=vs.map some++List.replicate (N.length - vs.length) none
noncomputable def qp (CX:CXT) (P:Program) (w:World) (K:PySem.W.Frag) (mg:Str→Option Value) (base:Heap) (N:List Str) (qual:Str) (scope:Scope) (f:Addr) (cd:Value) (A:Around) (outer:List Env) (s:Shared) (H:Hp) (E:XK):Cx where
 prog:=P
 w:=w
 K:=K
 mg:=mg
 base:=base
 A:=A.deeper (envOfC qual scope s.heap.objs.size f cd)
 N:=N
 s₀:=s
 H₀:=H
 env:=envOfC qual scope s.heap.objs.size f cd
 outer:=outer
 stack:=envOfC qual scope s.heap.objs.size f cd::outer
 ex:=[]
 calm:=true
 fn:=fun _=>true
 pn:=[]
 xe:=fun e s'=>wpAny (model P w) (A.deeper (envOfC qual scope s.heap.objs.size f cd)) (leaving (envOfC qual scope s.heap.objs.size f cd) e) (fun _ s''=>CX outer H s E e s'') (fun e' s''=>CX outer H s E e' s'') s'
theorem Ai {sc:Scope} {n:Nat} {x:Str} (h:sc.names.lookup x=some .cell):∃c,(cellsFrom n sc.names []).lookup x=some c:=by
 have q:=PySem.W.cellsFrom_some sc.names n [] (.inl h)
 exact Option.isSome_iff_exists.mp q
theorem Hd {CX:CXT} {P:Program} {w:World} {K:PySem.W.Frag} {mg:Str→Option Value} {base:Heap} {N ps:List Str} {qual:Str} {scope:Scope} {f:Addr} {cd:Value} {A:Around} {outer:List Env} {s s1:Shared} {H:Hp} {E:XK} {us:List Value} {vs:List V}
  (S:az N ps scope) (hd:A.handled=none) (e0:Env0 P w K mg base A outer s H) (hl:vs.length=ps.length) (r:Vals vs us)
  (x:InCallC s s.heap.objs.size (bindL (envOfC qual scope s.heap.objs.size f cd).kindOf (ps.zip us) fun _=>none) (cellsFrom (s.heap.objs.size+1) scope.names []) (bindC (envOfC qual scope s.heap.objs.size f cd).kindOf (ps.zip us) fun _=>none) s1):
  Inv (qp CX P w K mg base N qual scope f cd A outer s H E) [] (start N vs) H s1:=by
 have hpl:ps.length≤N.length:=by have:=congrArg List.length S.pre;rw [List.length_take] at this;omega
 obtain ⟨h1,tk,rfl,hk⟩:=x.done
 have noA:∀b:Addr,b∉(qp CX P w K mg base N qual scope f cd A outer s H E).ex:=fun b z=>absurd (show b∈([]:List Addr) from z) (by simp)
 refine ⟨⟨e0.mod,S.kind,rfl,rfl,Nat.le_refl _,fun y z c h1 h2=>?_,fun y hy=>?_,fun y c _ h=>?_,fun _=>hd,Around.frames_deeper e0.frames,.inr ⟨rfl,rfl⟩,fun b z=>absurd z (noA b),e0.bs,e0.bsz,fun b _ _=>noA b,fun b z=>absurd z (noA b),e0.qk,e0.frf⟩,
  rfl,e0.bare,Un.kept hk,⟨_,x.toInCall.ns,fun i y v h1 h2 h3=>?_⟩,fun y c h=>⟨_,x.cell y c h⟩,e0.hok.fresh (Nat.le_refl _),fun y c h=>?_,fun p hp=>absurd (show p∈([]:List (Addr×Obj)) from hp) (by simp),e0.hok.kept hk,?_⟩
 ·exact name_of_addr x.apart (PySem.mem_of_lookup h1) (PySem.mem_of_lookup h2)
 ·have hy:scope.names.lookup y=some .cell∨scope.names.lookup y=some .free:=hy
  rcases hy with hy | hy
  ·exact Ai hy
  ·exact absurd rfl (S.nofree _ (PySem.mem_of_lookup hy))
 ·exact Nat.le_of_lt (x.above y c (PySem.mem_of_lookup h))
 ·have hi:i < vs.length:=by
   unfold start at h2
   by_cases hi:i < vs.length
   ·exact hi
   ·rw [List.getElem?_append_right (by simpa using hi)] at h2
    rw [List.getElem?_replicate] at h2
    split at h2 <;> cases h2
  have ha:vs[i]?=some v:=by
   unfold start at h2
   rw [List.getElem?_append_left (by simpa using hi),List.getElem?_map] at h2
   cases e:vs[i]? with
   | none=>rw [e] at h2;cases h2
   | some a=>rw [e] at h2;cases h2;rfl
  obtain ⟨u,hu,rv⟩:=r.get ha
  have hp:ps[i]?=some y:=by
   rw [←S.pre,List.getElem?_take_of_lt (by omega)];exact h1
  have ndP:ps.Nodup:=by rw [←S.pre];exact S.nd.sublist (List.take_sublist _ _)
  refine ⟨u,rv,?_⟩
  rcases S.par y (List.mem_of_getElem? hp) with k | k
  ·exact .inl ⟨k,xa ndP hp hu k⟩
  ·obtain ⟨c,e⟩:=Ai (n:=s.heap.objs.size+1) k
   refine .inr ⟨.inl k,c,e,?_⟩
   have q:=x.cell y c e
   rw [xq ndP hp hu (by show scope.names.lookup y≠_;rw [k];decide)] at q
   exact q
 ·exact e0.hok.fresh (Nat.le_of_lt (x.above y c (PySem.mem_of_lookup h)))
 ·unfold start
  show _=N.length
  rw [List.length_append,List.length_map,List.length_replicate]
  omega
theorem fn_of {CX:CXT} {P:Program} {w:World} {K:PySem.W.Frag} {mg:Str→Option Value} {base:Heap} {k:Nat} {f:Addr} {name qual:Str} {params:Arguments} {body:List Stmt} {scope:Scope} {dV kV doc pm cdv ct oc:Value} {an od:Option Addr}
  {osl:Array (Option Value)} {N ps:List Str} {sp:Sp} (lk:K.lookup f=some ⟨oc,od,.func (PySem.W.fnOf name qual params body scope dV kV doc pm an cdv ct),osl⟩) (hcd:PySem.W.codeIn K cdv qual=true) (S:az N ps scope)
  (len:∀vs H Q E,sp vs H Q E→vs.length=ps.length)
  (hbody:∀(A:Around) (outer:List Env) (s:Shared) (H:Hp) (vs:List V) (Q:VK) (E:XK),gy k (A.deeper (envOfC qual scope s.heap.objs.size f cdv))→sp vs H Q E→
   ∃t,PSs (qp CX P w K mg base N qual scope f cdv A outer s H E) body t∧t { nx:=fun _ H'=>Q .non H',rt:=Q } (start N vs) H):
  n8 P w K mg base CX (k+1) f (PySem.W.fnOf name qual params body scope dV kV doc pm an cdv ct) ps sp:=by
 refine ⟨len,fun A outer s H args us vs Q E hr e0 hb r hsp=>?_⟩
 have hl:=len _ _ _ _ hsp
 have KX:K.In s.heap:=e0.mod.kin.keeps fun b o e=>(e0.bs b o e).1
 have lim:s.heap.NoLimit:=e0.mod.nolimit.keeps fun b o e=>(e0.bs b o e).1
 have hkind:∀y∈ps.zip us,scope.names.lookup y.1=some .local∨(scope.names.lookup y.1=some .cell∧((cellsFrom (s.heap.objs.size+1) scope.names []).lookup y.1).isSome=true):=fun ⟨n,v⟩ hy=>by
  rcases S.par n (List.of_mem_zip hy).1 with q | q
  ·exact .inl q
  ·exact .inr ⟨q,PySem.W.cellsFrom_some _ _ _ (.inl q)⟩
 refine codeAny_call_function hr.depth (KX _ _ lk) rfl S.co S.gen rfl (PySem.W.codeRec_of KX hcd) (hb _ _ _ _ ?_)
 refine wpAny_newFunctionEnv_cells S.kind hkind fun env he s1 x=>?_
 subst he
 refine ⟨lim.keeps x.toInCall.keep,codeAny_func ?_⟩
 obtain ⟨t,ht,hq⟩:=hbody A outer s H vs Q E (hr.deeper _) hsp
 have I:Inv (qp CX P w K mg base N qual scope f cdv A outer s H E) [] (start N vs) H s1:=Hd S hr.hd e0 hl r x
 refine wpAny_mono (ht [] s1 (start N vs) H _ I hq) (fun fl s' hs=>?_) fun e s' hs=>hs
 have fin:∀{σ':St} {H':Hp} {v:V} {u:Value},Inv (qp CX P w K mg base N qual scope f cdv A outer s H E) [] σ' H' s'→RelV v u→Q v H'→CE outer P w H s Q u s':=
  fun {σ' H' v u} J rv q=>⟨v,H',J.os,J.bare,J.base,J.hok,rv,q⟩
 cases fl with
 | ret u=>
  obtain ⟨v,σ',H',J,rv,q⟩:=hs
  exact fin J rv q
 | next=>
  obtain ⟨σ',H',J,q⟩:=hs
  exact fin (v:=V.non) (u:=Value.none) J rfl q
 | brk=>
  obtain ⟨_,_,_,q⟩:=hs
  exact False.elim q
 | cont=>
  obtain ⟨_,_,_,q⟩:=hs
  exact False.elim q
end L2
namespace L2
open PySem PySem.Spec PyProof.Rows
section
variable {X:Cx} {x:Str} {p pos:Pos} {e:Expr} {es:List Expr} {t:TA} {id T:String} {r:List V→Hp→VK→Prop}
def tCB (r:List V→Hp→VK→Prop) (t:TA):TE:=fun σ H Q=>t σ H fun vs H1=>r vs H1 Q
theorem Lz (hc:gj X (.builtin id) r) (hg:Gl X x) (hm:X.mg x=none) (hv:bootBuiltins x=some (.builtin id)) (ha:PA X (e::es) t) (hn:x≠"__name__":=by decide) (hdb:(x==("__debug__":Str))=false:=by decide)
  (he:starEach (e::es) X.env=(false,eval e X.env)::starEach es X.env:=by rfl) (hpl:(backTo pos (starEach es X.env)).any (·.1)=false:=by rfl):PE X (.Call (.Name x p) (e::es) [] pos) (tCB r t):=by
 intro pins s σ H Q I h
 refine wpAny_Call_Name_kw (jw I hg hm hv ?_ hn hdb)
 exact PyProof.Rows.callWith_builtin1 (thn (ha pos pins s σ H _ I h) fun us s1 ⟨vs,H1,I1,r1,q1⟩=>hc pins s1 σ H1 vs us Q I1 r1 q1) he hpl
theorem Gv (hc:gj X (.type T) r) (hg:Gl X x) (hm:X.mg x=none) (hv:bootBuiltins x=some (.type T)) (ha:PA X (e::es) t) (hn:x≠"__name__":=by decide) (hdb:(x==("__debug__":Str))=false:=by decide)
  (he:starEach (e::es) X.env=(false,eval e X.env)::starEach es X.env:=by rfl) (hpl:(backTo pos (starEach es X.env)).any (·.1)=false:=by rfl):PE X (.Call (.Name x p) (e::es) [] pos) (tCB r t):=by
 intro pins s σ H Q I h
 refine wpAny_Call_Name_kw (jw I hg hm hv ?_ hn hdb)
 exact PyProof.Rows.callWith_type1 (thn (ha pos pins s σ H _ I h) fun us s1 ⟨vs,H1,I1,r1,q1⟩=>hc pins s1 σ H1 vs us Q I1 r1 q1) he hpl
end
end L2
namespace HT
open PySem PyProof.Rows
section
open PySem.SeqAt
open PySem.AutoSeq1 (wpAny_loadPart')
open PySem.MeetsSeq PySem.MeetsSeq2 PySem.MeetsSeq3
end
section
variable {prog:Program} {w:World} {A:Around} {E:Value→Shared→Prop} {s:Shared}
theorem Mm {t b:Addr} {vs ws:List Value} {Q:Value→Shared→Prop} (ht:IsTup s.heap t vs.toArray) (hb:IsTup s.heap b ws.toArray) (hv:vs≠[])
  (h1:ws=[]→Q (.ref t) s) (h2:ws≠[]→Q (.ref s.heap.objs.size) { s with heap:=s.heap.push { cls:=.type "tuple",data:=.seq (vs++ws).toArray } })
  (hsz:vs.length+ws.length≤sizeLine):wpAny (model prog w) A (binaryOp .Add (.ref t) (.ref b)) Q E s:=by
 obtain ⟨⟨cls,dd,data,sl⟩,ho,hc,n,hd⟩:=id ht
 obtain ⟨⟨cls2,dd2,data2,sl2⟩,ho2,hc2,n2,hd2⟩:=id hb
 simp only at hc hd hc2 hd2
 subst hc hd hc2 hd2
 have e:vs.toArray++ws.toArray=(vs++ws).toArray:=by simp
 by_cases hw:ws=[]
 ·exact concat_meets ⟨_,ho,rfl⟩ ⟨_,ho2,rfl⟩ noFill_tuple_add seq_tuple_add PySem.F.slot_tuple_add PySem.F.entry_tuple_add (PySem.F.args_tuple_add_2 _ _)
   (tuple_addW1 t b vs.toArray ws.toArray n n2 dd dd2 sl sl2 (by simpa using hv) (by simp [hw])) ⟨ho,ho2,h1 hw⟩
 ·refine concat_meets ⟨_,ho,rfl⟩ ⟨_,ho2,rfl⟩ noFill_tuple_add seq_tuple_add PySem.F.slot_tuple_add PySem.F.entry_tuple_add (PySem.F.args_tuple_add_2 _ _)
   (tuple_addW2 t b vs.toArray ws.toArray n n2 dd dd2 sl sl2 (by simpa using hv) (by simpa using hw) (by rw [List.size_toArray,List.size_toArray];exact hsz)) ⟨ho,ho2,?_⟩
  rw [e]
  exact h2 hw
noncomputable def sIx (n d:Nat):Option Int→Nat
 | none=>d
 | some v=>if v < 0 then (v+(n:Int)).toNat else min v.toNat n
theorem Bn (n d:Nat):sIx n d none=d:=rfl
theorem Dt (n d k:Nat):sIx n d (some (k:Int))=min k n:=by
 show (if (k:Int) < 0 then ((k:Int)+(n:Int)).toNat else min (k:Int).toNat n)=min k n
 rw [if_neg (by omega),Int.toNat_natCast]
theorem sIx_le (n d:Nat) (hd:d≤n) (o:Option Int):sIx n d o≤n:=by
 cases o with
 | none=>exact hd
 | some v=>
  show (if v < 0 then (v+(n:Int)).toNat else min v.toNat n)≤n
  by_cases hv:v < 0
  ·rw [if_pos hv];omega
  ·rw [if_neg hv];exact Nat.min_le_right _ _
theorem Fe (v:Int) (n d:Nat):(if v < 0 then max (v+(n:Int)) 0 else min v (n:Int))=((sIx n d (some v):Nat):Int):=by
 show (if v < 0 then max (v+(n:Int)) 0 else min v (n:Int))=(((if v < 0 then (v+(n:Int)).toNat else min v.toNat n):Nat):Int)
 by_cases hv:v < 0
 ·simp only [if_pos hv];omega
 ·simp only [if_neg hv];omega
theorem Dk (lo hi:Option Int) (n:Nat):Builtin.Slice.sliceAdjust lo hi 1 (n:Int)=(((sIx n 0 lo:Nat):Int),((sIx n n hi:Nat):Int)):=by
 have h1:¬((1:Int) < 0):=by omega
 unfold Builtin.Slice.sliceAdjust
 simp only [h1,if_false]
 refine Prod.ext ?_ ?_
 ·cases lo with
  | none=>rfl
  | some v=>exact Fe v n 0
 ·cases hi with
  | none=>rfl
  | some v=>exact Fe v n n
theorem Ce (i j:Nat):Builtin.Slice.slicePlaces (i:Int) (j:Int) 1=j - i:=by
 unfold Builtin.Slice.slicePlaces
 have h1:(1:Int) > 0:=by omega
 simp only [h1,if_true,Int.ediv_one]
 split <;> omega
theorem vv {v:Value} {o:Option Int} {Q:Option Int→Shared→Prop} (p:IsPart v o) (h:Q o s):wpAny (model prog w) A (Builtin.Slice.slicePartIndex v) Q E s:=by
 cases p with
 | none=>exact slicePart_none h
 | int i t=>exact slicePart_int h
theorem ig {sl:Addr} {vl vu:Value} {lo hi:Option Int} {n:Nat} {Q:Int×Int×Nat→Shared→Prop} (hs:s.heap.IsSliceOf sl vl vu .none) (pl:IsPart vl lo) (pu:IsPart vu hi)
  (h:Q (((sIx n 0 lo:Nat):Int),1,sIx n n hi - sIx n 0 lo) s):wpAny (model prog w) A (Builtin.Slice.sliceApplied (.ref sl) (pure (n:Int))) Q E s:=by
 obtain ⟨os,hos,hcs,hds⟩:=id hs
 unfold Builtin.Slice.sliceApplied Builtin.Slice.sliceFields
 refine wpAny_bind (wpAny_bind (wpAny_field hos hds (x:=vl) rfl (wpAny_bind (wpAny_field hos hds (x:=vu) rfl (wpAny_bind (wpAny_field hos hds (x:=.none) rfl (wpAny_pure ?_)))))))
 refine wpAny_bind (slicePart_none ?_)
 show wpAny _ _ (if ((1:Int)==0)=true then _ else _) _ _ s
 rw [if_neg (by decide)]
 refine wpAny_bind (vv pl (wpAny_bind (vv pu (wpAny_bind (wpAny_pure ?_)))))
 show wpAny _ _ (match Builtin.Slice.sliceAdjust lo hi 1 (n:Int) with | (lo,hi)=>pure (lo,(1:Int),Builtin.Slice.slicePlaces lo hi 1)) _ _ s
 rw [Dk lo hi n]
 show wpAny _ _ (pure (((sIx n 0 lo:Nat):Int),(1:Int),Builtin.Slice.slicePlaces ((sIx n 0 lo:Nat):Int) ((sIx n n hi:Nat):Int) 1)) _ _ s
 rw [Ce]
 exact wpAny_pure h
theorem Ij (xs:Array Value) (i k:Nat):((List.range k).filterMap fun (m:Nat)=>xs[((i:Int)+(m:Int)*1).toNat]?).toArray=((xs.toList.drop i).take k).toArray:=by
 have e:(fun (m:Nat)=>xs[((i:Int)+(m:Int)*1).toNat]?)=fun m=>xs[i+m]?:=by
  funext m
  have:((i:Int)+(m:Int)*1).toNat=i+m:=by omega
  rw [this]
 rw [e]
 have:=pick_run xs i k
 rw [List.filterMap_map] at this
 have e2:((fun x=>xs[x]?) ∘ fun x=>i+x)=fun m=>xs[i+m]?:=rfl
 rw [e2] at this
 rw [this]
theorem og {t sl:Addr} {items:Array Value} {vl vu:Value} {lo hi:Option Int} {Q:Value→Shared→Prop} (ht:IsTup s.heap t items) (hs:s.heap.IsSliceOf sl vl vu .none) (pl:IsPart vl lo) (pu:IsPart vu hi)
  (hw:¬(sIx items.size 0 lo=0∧sIx items.size items.size hi=items.size))
  (h:Q (.ref s.heap.objs.size) { s with heap:=s.heap.push { cls:=.type "tuple",data:=.seq ((items.toList.drop (sIx items.size 0 lo)).take (sIx items.size items.size hi - sIx items.size 0 lo)).toArray } })
  (hsz:items.size≤sizeLine):wpAny (model prog w) A (getItem (.ref t) (.ref sl)) Q E s:=by
 have htake:sizeOk (.seq ((items.toList.drop (sIx items.size 0 lo)).take (sIx items.size items.size hi - sIx items.size 0 lo)).toArray):=by
  show ((items.toList.drop (sIx items.size 0 lo)).take (sIx items.size items.size hi - sIx items.size 0 lo)).toArray.size≤sizeLine
  rw [List.size_toArray,List.length_take,List.length_drop,Array.length_toList]
  omega
 have hj:sIx items.size items.size hi≤items.size:=sIx_le _ _ (Nat.le_refl _) hi
 obtain ⟨os,hos,hcs,hds⟩:=id hs
 have hTs:s.TypeIs (.ref sl) "slice":=⟨os,hos,hcs⟩
 unfold getItem
 try with_reducible refine wpAny_holding ?_
 first | refine wpAny_bind (wpAny_pure ?_) | skip
 refine wpAny_bind (wpAny_sequenceKey ht.typeIs (by decide) ?_)
 refine wpAny_bind (wpAny_callSpecial?_slot (name:=Str.ofString "__getitem__") ht.typeIs PyProof.Rows.slot_tuple_getitem
  (wpAny_call_entry PyProof.Rows.slot_tuple_getitem ht.typeIs entry_tuple_getitem ?_ (args_tuple_getitem _ _)))
 show wpAny _ _ (Builtin.Tuple.tupleItemsOf (.ref t) >>=_) _ _ s
 refine wpAny_bind (tupleItemsOf_ ht ?_)
 refine wpAny_bind (wpAny_typeOf hTs ?_)
 rw [if_pos (by decide)]
 refine wpAny_bind (ig hs pl pu ?_)
 have hno:¬((((sIx items.size 0 lo:Nat):Int)==0&&(1:Int)==1&&(sIx items.size items.size hi - sIx items.size 0 lo)==items.size)=true):=by
  intro q
  rw [Bool.and_eq_true,Bool.and_eq_true] at q
  have q1:((sIx items.size 0 lo:Nat):Int)=0:=eq_of_beq q.1.1
  have q2:sIx items.size items.size hi - sIx items.size 0 lo=items.size:=eq_of_beq q.2
  exact hw ⟨by omega,by omega⟩
 show wpAny _ _ (if (((sIx items.size 0 lo:Nat):Int)==0&&(1:Int)==1&&(sIx items.size items.size hi - sIx items.size 0 lo)==items.size)=true then _ else _) _ _ s
 rw [if_neg hno,Ij]
 first
  | exact wpAny_bind (m:=Builtin.Tuple.tupleExact _) (wpAny_newObj_type (wpAny_pure ⟨_,rfl,wpAny_pure h⟩) htake)
  | exact wpAny_bind (m:=Builtin.Tuple.tupleExact _) (wpAny_newObj_type (wpAny_bind (wpAny_pure (wpAny_pure ⟨_,rfl,wpAny_pure h⟩))) htake)
  | exact wpAny_bind (wpAny_bind (m:=Builtin.Tuple.tupleExact _) (wpAny_newObj_type (wpAny_pure (wpAny_pure ⟨_,rfl,wpAny_pure h⟩)) htake))
  | exact wpAny_bind (wpAny_bind (m:=Builtin.Tuple.tupleExact _) (wpAny_newObj_type (wpAny_pure ⟨_,rfl,wpAny_pure h⟩) htake))
end
end HT
namespace L2
open PySem PySem.Spec PyProof.Rows
abbrev TO:=St→Hp→(Option Int→Hp→Prop)→Prop
def PO (X:Cx) (e:Option Expr) (t:TO):Prop:=
 ∀(pins:List (Addr×Obj)) (s:Shared) (σ:St) (H:Hp) (Q:Option Int→Hp→Prop),Inv X pins σ H s→t σ H Q→
  wpAny (model X.prog X.w) X.A (evalPart e X.env) (fun u s'=>∃o H',Inv X pins σ H' s'∧IsPart u o∧Q o H') X.xe s
def Em:TO:=fun _ H Q=>Q none H
def Hs (t:TE):TO:=fun σ H Q=>t σ H fun x H1=>∃i,x=.int i∧Q (some i) H1
section
variable {X:Cx} {e:Expr} {te:TE} {lo hi:Option Expr} {tl th:TO} {pos p2:Pos}
theorem ny:PO X none Em:=by
 intro pins s σ H Q I h
 rw [evalPart_none]
 exact wpAny_pure ⟨none,H,I,.none,h⟩
theorem Ou (h:PE X e te):PO X (some e) (Hs te):=by
 intro pins s σ H Q I hw
 rw [evalPart_some]
 refine thn (h pins s σ H _ I hw) fun u s1 ⟨x,H1,I1,r1,q1⟩=>?_
 obtain ⟨i,rfl,q⟩:=q1
 obtain ⟨t,rfl⟩:=r1
 exact ⟨some i,H1,I1,.int i t,q⟩
def SlR (X:Cx) (r:V→Option Int→Option Int→Hp→VK→Prop):Prop:=
 ∀(pins:List (Addr×Obj)) (s:Shared) (σ:St) (H:Hp) (x:V) (v vl vu:Value) (lo hi:Option Int) (sl:Addr) (Q:VK),Inv X pins σ H s→RelV x v→s.heap.IsSliceOf sl vl vu .none→IsPart vl lo→IsPart vu hi→r x lo hi H Q→
  ∃T id,typeLookup (.type T) "__getitem__"=pure (some (.builtin id))∧s.TypeIs v T∧wpAny (model X.prog X.w) X.A (getItem v (.ref sl)) (EP X pins σ Q) X.xe s
def tSl (r:V→Option Int→Option Int→Hp→VK→Prop) (te:TE) (tl th:TO):TE:=fun σ H Q=>te σ H fun x H1=>tl σ H1 fun l H2=>th σ H2 fun u H3=>r x l u H3 Q
theorem Iu {r:V→Option Int→Option Int→Hp→VK→Prop} (hr:SlR X r) (he:PE X e te) (hl:PO X lo tl) (hu:PO X hi th):PE X (.Subscript e (.Slice lo hi none p2) pos) (tSl r te tl th):=by
 intro pins s σ H Q I h
 refine Subscript_ (thn (he pins s σ H _ I h) fun v s1 ⟨x,H1,I1,r1,q1⟩=>?_)
 refine wpAny_Slice (thn (hl pins s1 σ H1 _ I1 q1) fun vl s2 ⟨l,H2,I2,pl,q2⟩=>thn (hu pins s2 σ H2 _ I2 q2) fun vu s3 ⟨u,H3,I3,pu,q3⟩=>?_)
 rw [evalPart_none]
 refine wpAny_pure ?_
 have I4:Inv X pins σ H3 { s3 with heap:=s3.heap.push { cls:=.type "slice",data:=.fields #[vl,vu,.none] } }:=I3.kept (t':=s3.toks) fun b ob q=>Heap.get?_push_of_some _ q
 obtain ⟨T,id,hT,ht,hg⟩:=hr pins { s3 with heap:=s3.heap.push { cls:=.type "slice",data:=.fields #[vl,vu,.none] } } σ H3 x v vl vu l u s3.heap.objs.size Q I4 r1 (Heap.IsSliceOf.new ..) pl pu q3
 show wpAny (model X.prog X.w) X.A (subscriptTail e (.Slice lo hi none p2) v (.ref s3.heap.objs.size)) (EP X pins σ Q) X.xe { s3 with heap:=s3.heap.push { cls:=.type "slice",data:=.fields #[vl,vu,.none] } }
 exact tail_any (ops:=[.ref s3.heap.objs.size,v]) ht hT hg (by with_unfolding_all rfl)
noncomputable def i8 (xs:List V) (lo hi:Option Int):List V:=(xs.drop (HT.sIx xs.length 0 lo)).take (HT.sIx xs.length xs.length hi - HT.sIx xs.length 0 lo)
theorem qf (xs:List V) (lo hi:Option Int):(i8 xs lo hi).length≤xs.length:=by
 unfold i8
 rw [List.length_take,List.length_drop]
 omega
def rSlT (K:PySem.W.Frag):V→Option Int→Option Int→Hp→VK→Prop:=fun x lo hi H Q=>∃a xs,x=.ref a∧SqT K H a xs∧
 ¬(HT.sIx xs.length 0 lo=0∧HT.sIx xs.length xs.length hi=xs.length)∧∀p,H p=none→Q (.ref p) (upd H p (.tup (i8 xs lo hi)))
theorem sl_tup:SlR X (rSlT X.K):=by
 intro pins s σ H x v vl vu lo hi sl Q I rx hs pl pu h
 obtain ⟨a,xs,rfl,hx,hw,q⟩:=h
 cases rx
 obtain ⟨its,r,ht,hz⟩:=I.tuple hx
 have hlen:its.toArray.size=xs.length:=by rw [List.size_toArray];exact r.length.symm
 refine ⟨"tuple",_,PyProof.Rows.slot_tuple_getitem.lookup,ht.typeIs,?_⟩
 refine HT.og ht hs pl pu (by rw [hlen];exact hw) ?_ (by rw [hlen];exact hz)
 rw [hlen]
 refine ⟨.ref s.heap.objs.size,_,I.laid (t':=s.toks) (o:=.tup (i8 xs lo hi)) (fun b ob q=>Heap.get?_push_of_some _ q) (Nat.le_refl _) ?_,rfl,q _ (I.hok.fresh (Nat.le_refl _))⟩
 exact ⟨Nat.le_trans (qf xs lo hi) hz,_,(r.drop (HT.sIx xs.length 0 lo)).take (HT.sIx xs.length xs.length hi - HT.sIx xs.length 0 lo),⟨_,Heap.get?_push_size _ rfl,rfl,_,rfl,rfl⟩⟩
def rCatT (K:PySem.W.Frag):R2:=fun x y H Q=>∃a b xs ys,x=.ref a∧y=.ref b∧SqT K H a xs∧SqT K H b ys∧xs≠[]∧xs.length+ys.length≤sizeLine∧
 (ys=[]→Q (.ref a) H)∧(ys≠[]→∀p,H p=none→Q (.ref p) (upd H p (.tup (xs++ys))))
theorem Vals.q5 {xs:List V} {us:List Value} (r:Vals xs us):us=[]↔xs=[]:=by
 cases r with
 | nil=>simp
 | cons _ _=>simp
theorem Ms:OpR X (binaryOp .Add) (rCatT X.K):=by
 intro pins s σ H x y v u Q I rx ry h
 obtain ⟨a,b,xs,ys,rfl,rfl,ha,hb,hx,hz,q1,q2⟩:=h
 cases rx
 cases ry
 obtain ⟨its,r1,p1,_⟩:=I.tuple ha
 obtain ⟨its2,r2,p2,_⟩:=I.tuple hb
 refine HT.Mm p1 p2 (fun z=>hx (r1.q5.mp z)) (fun z=>⟨.ref a,H,I,rfl,q1 (r2.q5.mp z)⟩) (fun z=>?_) (by rw [←r1.length,←r2.length];exact hz)
 refine ⟨.ref s.heap.objs.size,_,I.laid (t':=s.toks) (o:=.tup (xs++ys)) (fun b ob q=>Heap.get?_push_of_some _ q) (Nat.le_refl _) ?_,rfl,q2 (fun w=>z (r2.q5.mpr w)) _ (I.hok.fresh (Nat.le_refl _))⟩
 exact ⟨by rw [List.length_append];exact hz,_,r1.append r2,⟨_,Heap.get?_push_size _ rfl,rfl,_,rfl,rfl⟩⟩
end
end L2
namespace L2
open PySem PySem.Spec PyProof.Rows
noncomputable def ixN (n:Nat) (i:Int):Option Nat:=if 0≤i then (if i < n then some i.toNat else none) else if -(n:Int)≤i then some (i+n).toNat else none
noncomputable def atI {α:Type} (xs:List α) (i:Int):Option α:=(ixN xs.length i).bind fun j=>xs[j]?
theorem Fl {n:Nat} {i:Int} {j:Nat} (h:ixN n i=some j):seqIndex? i n=some j∧j < n∧-(n:Int)≤i∧i < n:=by
 unfold ixN at h
 by_cases h0:0≤i
 ·rw [if_pos h0] at h
  by_cases h1:i < n
  ·rw [if_pos h1] at h
   have e:i.toNat=j:=Option.some.inj h
   exact ⟨by rw [seqIndex_of h0 h1,e],by omega,by omega,h1⟩
  ·rw [if_neg h1] at h;cases h
 ·rw [if_neg h0] at h
  by_cases h1:-(n:Int)≤i
  ·rw [if_pos h1] at h
   have e:(i+n).toNat=j:=Option.some.inj h
   exact ⟨by rw [seqIndex_neg (by omega) h1,e],by omega,h1,by omega⟩
  ·rw [if_neg h1] at h;cases h
theorem yq {α:Type} {xs:List α} {i:Int} {v:α} (h:atI xs i=some v):∃j,seqIndex? i xs.length=some j∧xs[j]?=some v∧j < xs.length∧-(xs.length:Int)≤i∧i < xs.length:=by
 unfold atI at h
 cases e:ixN xs.length i with
 | none=>rw [e] at h;cases h
 | some j=>
  rw [e] at h
  obtain ⟨h1,h2,h3,h4⟩:=Fl e
  exact ⟨j,h1,h,h2,h3,h4⟩
theorem ax {α:Type} {xs:List α} {j:Nat} {v:α} (h:xs[j]?=some v):atI xs (j:Int)=some v:=by
 have hj:j < xs.length:=(List.getElem?_eq_some_iff.mp h).1
 have e:ixN xs.length (j:Int)=some j:=by
  unfold ixN
  rw [if_pos (by omega),if_pos (by omega)];simp
 unfold atI;rw [e];exact h
def Mb (b:Expr):Prop:=∀o i,subscripted b false o i=operate [o,i] (getItem o i)
def IxR (X:Cx) (r:R2):Prop:=
 ∀(value slice:Expr) (pins:List (Addr×Obj)) (s:Shared) (σ:St) (H:Hp) (x y:V) (v u:Value) (Q:VK),Inv X pins σ H s→RelV x v→RelV y u→r x y H Q→
  subscripted slice false v u=operate [v,u] (getItem v u)→wpAny (model X.prog X.w) X.A (subscriptTail value slice v u) (EP X pins σ Q) X.xe s
def MtR (X:Cx) (id:String) (r:V→List V→Hp→VK→Prop):Prop:=
 ∀(pins:List (Addr×Obj)) (s:Shared) (σ:St) (H:Hp) (x:V) (xs:List V) (v:Value) (us:List Value) (Q:VK),Inv X pins σ H s→RelV x v→Vals xs us→r x xs H Q→
  wpAny (model X.prog X.w) X.A (call (.builtin id) (v::us)) (EP X pins σ Q) X.xe s
section
variable {X:Cx} {a b:Expr} {ta tb:TE} {pos:Pos}
theorem pe_ix {r:R2} (hr:IxR X r) (ha:PE X a ta) (hb:PE X b tb) (hs:Mb b):PE X (.Subscript a b pos) (tOp r ta tb):=by
 intro pins s σ H Q I h
 exact Subscript_ (binT ha hb I h fun v u s2 x y H2 I2 rx ry q=>hr a b pins s2 σ H2 x y v u Q I2 rx ry q (hs _ _))
def rIxL (K:PySem.W.Frag):R2:=fun x y H Q=>∃p xs i v,x=.ref p∧y=.int i∧SqL K H p xs∧atI xs i=some v∧Q v H
def rIxT (K:PySem.W.Frag):R2:=fun x y H Q=>∃p xs i v,x=.ref p∧y=.int i∧SqT K H p xs∧atI xs i=some v∧Q v H
def rIxS:R2:=fun x y H Q=>∃z i c,x=.str z∧y=.int i∧z.length≤sizeLine∧atI z.cps.toList i=some c∧Q (.str ⟨#[c]⟩) H
theorem Fo:IxR X (rIxL X.K):=by
 intro value slice pins s σ H x y v u Q I rx ry h hs
 obtain ⟨p,xs,i,z,rfl,rfl,hq,he,q⟩:=h
 cases rx
 obtain ⟨t,rfl⟩:=ry
 obtain ⟨its,r,pl,hz⟩:=I.list hq
 obtain ⟨j,h1,h2,h3,h4,h5⟩:=yq he
 obtain ⟨w,ew,rw'⟩:=r.get h2
 have hl:=r.length
 have hn:=vj
 have fin:EP X pins σ Q w s:=⟨z,H,I,rw',q⟩
 by_cases h0:0≤i
 ·have hj:i.toNat=j:=by
   rw [seqIndex_of h0 h5] at h1
   exact Option.some.inj h1
  exact item_listR pl.isList h0 (by omega) (by rw [hj];simpa using ew) fin hs
 ·have hj:(i+(its.toArray.size:Int)).toNat=j:=by
   rw [seqIndex_neg (by omega) h4] at h1
   rw [List.size_toArray,←hl]
   exact Option.some.inj h1
  exact subscriptTail_builtinR (x:=w) pl.isList.typeIs slot_list_getitem.lookup
   (wpAny_getItem_list_neg (Q:=fun r s'=>r=w∧EP X pins σ Q r s') pl.isList (by omega) (by rw [List.size_toArray] <;> omega) (by omega) (by rw [hj];simpa using ew) ⟨rfl,fin⟩) hs
theorem Jq:IxR X (rIxT X.K):=by
 intro value slice pins s σ H x y v u Q I rx ry h hs
 obtain ⟨p,xs,i,z,rfl,rfl,hq,he,q⟩:=h
 cases rx
 obtain ⟨t,rfl⟩:=ry
 obtain ⟨its,r,pl,hz⟩:=I.tuple hq
 obtain ⟨j,h1,h2,h3,h4,h5⟩:=yq he
 obtain ⟨w,ew,rw'⟩:=r.get h2
 have hl:=r.length
 have hn:=vj
 have fin:EP X pins σ Q w s:=⟨z,H,I,rw',q⟩
 exact subscriptTail_builtinR (x:=w) pl.typeIs slot_tuple_getitem.lookup
  (getItem_tuple (j:=j) (Q:=fun r s'=>r=w∧EP X pins σ Q r s') pl (by omega) (by omega) (by rw [List.size_toArray,←hl];exact h1) (by simpa using ew) ⟨rfl,fin⟩) hs
theorem jt:IxR X rIxS:=by
 intro value slice pins s σ H x y v u Q I rx ry h hs
 obtain ⟨z,i,c,rfl,rfl,hz,he,q⟩:=h
 obtain ⟨t,rfl⟩:=rx
 obtain ⟨t',rfl⟩:=ry
 obtain ⟨j,h1,h2,h3,h4,h5⟩:=yq he
 have hl:z.cps.toList.length=z.length:=by simp [Str.length]
 rw [hl] at h1 h4 h5
 have hn:=vj
 exact tail_any (typeIs_str s z t) slot_str_getitem.lookup (getItem_str (c:=c) (by
  have e1:decide (i < -(2 ^ 63:Int))=false:=decide_eq_false (by omega)
  have e2:decide (i≥2 ^ 63)=false:=decide_eq_false (by omega)
  rw [e1,e2,Bool.or_false]) (by rw [h1];simpa using h2) ⟨.str ⟨#[c]⟩,H,I.tok _,⟨_,rfl⟩,q⟩) hs
theorem Cu (its:List Value) (n j:Nat) (u:Value):Obj.mapSeq (·.setIfInBounds j u) { cls:=.type "list",data:=.seq its.toArray n }={ cls:=.type "list",data:=.seq (its.set j u).toArray n }:=by
 simp [Obj.mapSeq]
theorem Inv.lst {pins:List (Addr×Obj)} {σ:St} {H:Hp} {s:Shared} {p:Addr} {xs:List V} (I:Inv X pins σ H s) (h:H p=some (.lst xs)):
  ∃(its:List Value) (n:Nat),Vals xs its∧s.heap.get? p=some { cls:=.type "list",data:=.seq its.toArray n }∧xs.length≤sizeLine:=by
 obtain ⟨z,its,n,r,e⟩:=I.hok p _ h
 exact ⟨its,n,r,e,z⟩
theorem Inv.lstUpd {pins:List (Addr×Obj)} {σ:St} {H:Hp} {s:Shared} {p:Addr} {xs ys:List V} {its its':List Value} {n n':Nat} {f:Obj→Obj} (I:Inv X pins σ H s) (h:H p=some (.lst xs))
  (ho:s.heap.get? p=some { cls:=.type "list",data:=.seq its.toArray n }) (hf:f { cls:=.type "list",data:=.seq its.toArray n }={ cls:=.type "list",data:=.seq its'.toArray n' }) (r:Vals ys its') (hz:ys.length≤sizeLine) (t:Nat):
  Inv X pins σ (upd H p (.lst ys)) { s with heap:=s.heap.update p f,toks:=t }:=by
 have e:(s.heap.update p f).get? p=some { cls:=.type "list",data:=.seq its'.toArray n' }:=by
  rw [Heap.get?_update_self f ho (by rw [hf] <;> rfl),hf]
 refine I.write (x:=p) (e:=p) (by rw [h];trivial) (.inl rfl) (fun b u hb q=>(Heap.get?_update_other _ _ (Ne.symm hb)).trans q) ⟨_,e⟩ ?_
 exact ⟨hz,its',n',r,e⟩
def J9:V→V→V→Hp→(Hp→Prop)→Prop:=fun o i v H Q=>∃p xs k j,o=.ref p∧i=.int k∧H p=some (.lst xs)∧ixN xs.length k=some j∧Q (upd H p (.lst (xs.set j v)))
theorem set_list:PSet X J9:=by
 intro pins s σ H o i v ov iv u Q I ro ri rv h
 obtain ⟨p,xs,k,j,rfl,rfl,hp,hj,q⟩:=h
 cases ro
 obtain ⟨t,rfl⟩:=ri
 obtain ⟨its,n,r,ho,hz⟩:=I.lst hp
 obtain ⟨h1,h2,h3,h4⟩:=Fl hj
 have hl:=r.length
 have hn:=vj
 have I':Inv X pins σ (upd H p (.lst (xs.set j v))) { s with heap:=s.heap.update p (Obj.mapSeq (·.setIfInBounds j u)) }:=
  I.lstUpd hp ho (Cu its n j u) (r.set rv j) (by rw [List.length_set];exact hz) s.toks
 by_cases h0:0≤k
 ·have hk:k.toNat=j:=by
   rw [seqIndex_of h0 h4] at h1
   exact Option.some.inj h1
  exact PySem.W.ki_setAt ho h0 (by omega) (by rw [List.size_toArray,←hl];exact h4) (by rw [hk];exact ⟨_,I',q⟩)
 ·have hk:(k+(its.toArray.size:Int)).toNat=j:=by
   rw [seqIndex_neg (by omega) h3] at h1
   rw [List.size_toArray,←hl]
   exact Option.some.inj h1
  exact PySem.W.ki_setBack ho (by omega) (by rw [List.size_toArray,←hl];exact h3) (by omega) (by rw [hk];exact ⟨_,I',q⟩)
theorem y6 (lo hi:Option Int) (n:Nat):(sliceBounds lo hi none n).1=((HT.sIx n 0 lo:Nat):Int)∧(sliceBounds lo hi none n).2.1=((HT.sIx n n hi:Nat):Int)∧(sliceBounds lo hi none n).2.2=1:=by
 refine ⟨?_,?_,rfl⟩
 ·cases lo with
  | none=>simp [sliceBounds,HT.sIx]
  | some i=>
   simp only [sliceBounds,HT.sIx,Option.getD_none,show (1:Int) > 0 by decide,if_true]
   by_cases h:i < 0
   ·simp only [h,if_true] <;> omega
   ·simp only [h,if_false] <;> omega
 ·cases hi with
  | none=>simp [sliceBounds,HT.sIx]
  | some i=>
   simp only [sliceBounds,HT.sIx,Option.getD_none,show (1:Int) > 0 by decide,if_true]
   by_cases h:i < 0
   ·simp only [h,if_true] <;> omega
   ·simp only [h,if_false] <;> omega
theorem we (its:List Value) (lo hi:Option Int):slicePick its.toArray lo hi none=((its.drop (HT.sIx its.length 0 lo)).take (HT.sIx its.length its.length hi - HT.sIx its.length 0 lo)).toArray:=by
 obtain ⟨h1,h2,h3⟩:=y6 lo hi its.toArray.size
 unfold slicePick
 rw [h1,h2,h3]
 simp only [sliceRange_one,pick_run,List.size_toArray] <;> rfl
def rSlL (K:PySem.W.Frag):V→Option Int→Option Int→Hp→VK→Prop:=fun x lo hi H Q=>∃a xs,x=.ref a∧SqL K H a xs∧∀p,H p=none→Q (.ref p) (upd H p (.lst (i8 xs lo hi)))
theorem sj:SlR X (rSlL X.K):=by
 intro pins s σ H x v vl vu lo hi sl Q I rx hs pl pu h
 obtain ⟨a,xs,rfl,hx,q⟩:=h
 cases rx
 obtain ⟨its,r,ht,hz⟩:=I.list hx
 have hlen:=r.length
 refine ⟨"list",_,slot_list_getitem.lookup,ht.isList.typeIs,?_⟩
 refine wpAny_getItem_list_slice ht.isList hs pl pu .none (by simp) ?_ (by rw [List.size_toArray] <;> omega)
 rw [we,←hlen]
 refine ⟨.ref s.heap.objs.size,_,I.laid (t':=s.toks) (o:=.lst (i8 xs lo hi)) (fun b ob q=>Heap.get?_push_of_some _ q) (Nat.le_refl _) ?_,rfl,q _ (I.hok.fresh (Nat.le_refl _))⟩
 exact ⟨Nat.le_trans (qf xs lo hi) hz,_,0,(r.drop (HT.sIx xs.length 0 lo)).take (HT.sIx xs.length xs.length hi - HT.sIx xs.length 0 lo),Heap.get?_push_size _ rfl⟩
noncomputable def gw:V→Bool
 | .non=>true
 | .bl _=>true
 | .int _=>true
 | .str _=>true
 | _=>false
noncomputable def eqV:V→V→Bool
 | .non,.non=>true
 | .bl a,.bl b=>a==b
 | .bl a,.int b=>(if a then 1 else 0)==b
 | .int a,.bl b=>a==(if b then 1 else 0)
 | .int a,.int b=>a==b
 | .str a,.str b=>a==b
 | _,_=>false
theorem eqAt_V {A:Around} {s:Shared} {y x:V} {u v:Value} (ry:RelV y u) (rx:RelV x v) (fy:gw y=true) (fx:gw x=true):SeqAt.EqAt A s u v (eqV y x):=by
 cases y with
 | non=>
  cases ry
  cases x with
  | non=>cases rx;exact SeqAt.EqAt.same _
  | bl b=>cases rx;exact SeqAt.EqAt.none_bool b
  | int b=>obtain ⟨t,rfl⟩:=rx;exact SeqAt.EqAt.none_int b t
  | str b=>obtain ⟨t,rfl⟩:=rx;exact SeqAt.EqAt.none_str b t
  | _=>exact absurd (show false=true from fx) Bool.false_ne_true
 | bl a=>
  cases ry
  cases x with
  | non=>cases rx;exact SeqAt.EqAt.bool_none a
  | bl b=>cases rx;exact SeqAt.EqAt.bool_bool a b
  | int b=>obtain ⟨t,rfl⟩:=rx;exact SeqAt.EqAt.bool_int a b t
  | str b=>obtain ⟨t,rfl⟩:=rx;exact SeqAt.EqAt.bool_str a b t
  | _=>exact absurd (show false=true from fx) Bool.false_ne_true
 | int a=>
  obtain ⟨t',rfl⟩:=ry
  cases x with
  | non=>cases rx;exact SeqAt.EqAt.int_none a t'
  | bl b=>cases rx;exact SeqAt.EqAt.int_bool a t' b
  | int b=>obtain ⟨t,rfl⟩:=rx;exact SeqAt.EqAt.int_int a t' b t
  | str b=>obtain ⟨t,rfl⟩:=rx;exact SeqAt.EqAt.int_str a t' b t
  | _=>exact absurd (show false=true from fx) Bool.false_ne_true
 | str a=>
  obtain ⟨t',rfl⟩:=ry
  cases x with
  | non=>cases rx;exact SeqAt.EqAt.str_none a t'
  | bl b=>cases rx;exact SeqAt.EqAt.str_bool a t' b
  | int b=>obtain ⟨t,rfl⟩:=rx;exact SeqAt.EqAt.str_int a t' b t
  | str b=>obtain ⟨t,rfl⟩:=rx;exact SeqAt.EqAt.str_str a t' b t
  | _=>exact absurd (show false=true from fx) Bool.false_ne_true
 | _=>exact absurd (show false=true from fy) Bool.false_ne_true
noncomputable def eqU (x:V) (u:Value):Bool:=match u with
 | .none=>eqV .non x
 | .bool b=>eqV (.bl b) x
 | .int i _=>eqV (.int i) x
 | .str z _=>eqV (.str z) x
 | _=>false
theorem Ly {x y:V} {u:Value} (r:RelV y u) (f:gw y=true):eqU x u=eqV y x:=by
 cases y with
 | non=>cases r;rfl
 | bl b=>cases r;rfl
 | int i=>obtain ⟨t,rfl⟩:=r;rfl
 | str z=>obtain ⟨t,rfl⟩:=r;rfl
 | _=>exact absurd (show false=true from f) Bool.false_ne_true
theorem m4 {x:V}:∀{xs:List V} {us:List Value},Vals xs us→xs.all gw=true→us.any (eqU x)=xs.any fun y=>eqV y x
 | _,_,.nil,_=>rfl
 | y::xs,u::us,.cons r t,f=>by
  rw [List.all_cons,Bool.and_eq_true] at f
  rw [List.any_cons,List.any_cons,Ly r f.1,m4 t f.2]
theorem jq {A:Around} {s:Shared} {x:V} {v:Value} (rx:RelV x v) (fx:gw x=true):∀{xs:List V} {us:List Value},Vals xs us→xs.all gw=true→∀u∈us,SeqAt.EqAt A s u v (eqU x u)
 | _,_,.nil,_=>fun u hu=>by cases hu
 | y::xs,u::us,.cons r t,f=>fun u' hu=>by
  rw [List.all_cons,Bool.and_eq_true] at f
  rcases List.mem_cons.mp hu with rfl | hu
  ·rw [Ly r f.1];exact eqAt_V r rx f.1 fx
  ·exact jq rx fx t f.2 u' hu
noncomputable def inV (x:V) (xs:List V):Bool:=xs.any fun y=>eqV y x
def rIn (K:PySem.W.Frag) (neg:Bool):R2:=fun x y H Q=>∃p xs,y=.ref p∧(SqL K H p xs∨SqT K H p xs)∧gw x=true∧xs.all gw=true∧Q (.bl (if neg then !inV x xs else inV x xs)) H
theorem xb:OpR X (compareOp .In) (rIn X.K false):=by
 intro pins s σ H x y v u Q I rx ry h
 obtain ⟨p,xs,rfl,hq,fx,fs,q⟩:=h
 cases ry
 rcases hq with hq | hq
 ·obtain ⟨its,r,pl,hz⟩:=I.list hq
  refine SeqAt.in_listAt (eqU x) pl.isList (fun w hw=>jq rx fx r fs w (by simpa using hw)) ⟨.bl _,H,I,rfl,?_⟩
  rw [show its.toArray.any (eqU x)=its.any (eqU x) by simp,m4 r fs]
  exact q
 ·obtain ⟨its,r,pl,hz⟩:=I.tuple hq
  refine SeqAt.in_tupleAt (eqU x) pl (fun w hw=>jq rx fx r fs w (by simpa using hw)) ⟨.bl _,H,I,rfl,?_⟩
  rw [show its.toArray.any (eqU x)=its.any (eqU x) by simp,m4 r fs]
  exact q
theorem zi:OpR X (compareOp .NotIn) (rIn X.K true):=by
 intro pins s σ H x y v u Q I rx ry h
 obtain ⟨p,xs,rfl,hq,fx,fs,q⟩:=h
 cases ry
 rcases hq with hq | hq
 ·obtain ⟨its,r,pl,hz⟩:=I.list hq
  refine SeqAt.notIn_listAt (eqU x) pl.isList (fun w hw=>jq rx fx r fs w (by simpa using hw)) ⟨.bl _,H,I,rfl,?_⟩
  rw [show its.toArray.any (eqU x)=its.any (eqU x) by simp,m4 r fs]
  exact q
 ·obtain ⟨its,r,pl,hz⟩:=I.tuple hq
  refine SeqAt.notIn_tupleAt (eqU x) pl (fun w hw=>jq rx fx r fs w (by simpa using hw)) ⟨.bl _,H,I,rfl,?_⟩
  rw [show its.toArray.any (eqU x)=its.any (eqU x) by simp,m4 r fs]
  exact q
theorem yf:gj X (.builtin "len") (fun xs H Q=>∃p ys,xs=[.ref p]∧(SqL X.K H p ys∨SqT X.K H p ys)∧Q (.int ys.length) H):=by
 intro pins s σ H xs us Q I r h
 obtain ⟨p,ys,rfl,hq,q⟩:=h
 obtain ⟨u,rfl,rx⟩:=vals1 r
 cases rx
 have hn:=vj
 rcases hq with hq | hq
 ·obtain ⟨its,r',pl,hz⟩:=I.list hq
  have hlen:=r'.length
  exact Calls.call_len_list pl.isList (by simp only [List.size_toArray] <;> omega) ⟨.int ys.length,H,I.tok _,⟨s.toks+1,by rw [List.size_toArray,hlen]⟩,q⟩
 ·obtain ⟨its,r',pl,hz⟩:=I.tuple hq
  have hlen:=r'.length
  exact len_tuple pl (by simp only [List.size_toArray] <;> omega) ⟨.int ys.length,H,I.tok _,⟨s.toks+1,by rw [List.size_toArray,hlen]⟩,q⟩
theorem vz:gj X (.type "tuple") (fun xs H Q=>∃p ys,xs=[.ref p]∧((SqL X.K H p ys∧∀l,H l=none→Q (.ref l) (upd H l (.tup ys)))∨(SqT X.K H p ys∧Q (.ref p) H))):=by
 intro pins s σ H xs us Q I r h
 obtain ⟨p,ys,rfl,h⟩:=h
 obtain ⟨u,rfl,rx⟩:=vals1 r
 cases rx
 rcases h with ⟨hq,q⟩ | ⟨hq,q⟩
 ·obtain ⟨its,r',pl,hz⟩:=I.list hq
  have hlen:=r'.length
  refine call_tuple_list pl.isList (fun h' kp=>?_) (by simp only [List.size_toArray] <;> omega)
  have I1:Inv X pins σ H { s with heap:=h' }:=I.kept (t':=s.toks) kp
  have I2:Inv X pins σ (upd H h'.objs.size (.tup ys)) { s with heap:=h'.push { cls:=.type "tuple",data:=.seq its.toArray } }:=
   I1.laid (t':=s.toks) (fun b o e=>Heap.get?_push_of_some _ e) (Nat.le_refl _) (show bp X.prog X.w _ _ _ (.tup ys) from ⟨hz,its,r',⟨_,Heap.get?_push_size _ rfl,rfl,_,rfl,rfl⟩⟩)
  exact ⟨.ref h'.objs.size,_,I2,rfl,q _ (I1.hok.fresh (Nat.le_refl _))⟩
 ·obtain ⟨its,r',pl,hz⟩:=I.tuple hq
  exact call_tuple_same pl ⟨.ref p,H,I,rfl,q⟩
def tyV (K:PySem.W.Frag) (T:String) (x:V) (H:Hp):Prop:=match x with
 | .str _=>T="str"
 | .int _=>T="int"
 | .ref p=>(T="list"∧∃xs,SqL K H p xs)∨(T="tuple"∧((∃o,K.lookup p=some o∧o.cls=.type "tuple"∧o.dict=none)∨∃xs,H p=some (.tup xs)))∨
   (T="dict"∧((∃kvs,H p=some (.dK kvs))∨∃kvs,H p=some (.dT kvs)))∨(T="set"∧∃S n,H p=some (.set S n))
 | _=>False
theorem K8 {pins:List (Addr×Obj)} {σ:St} {H:Hp} {s:Shared} {T:String} {x:V} {v:Value} (I:Inv X pins σ H s) (r:RelV x v) (ty:tyV X.K T x H):
  s.TypeIs v T∧∀a,v=.ref a→∃ob,s.heap.get? a=some ob∧ob.dict=none:=by
 cases x with
 | str z=>
  obtain ⟨t,rfl⟩:=r
  cases (show T="str" from ty)
  exact ⟨typeIs_str s z t,fun _ e=>nomatch e⟩
 | int i=>
  obtain ⟨t,rfl⟩:=r
  cases (show T="int" from ty)
  exact ⟨typeIs_int s i t,fun _ e=>nomatch e⟩
 | ref p=>
  cases r
  rcases ty with ⟨rfl,xs,hq⟩ | ⟨rfl,⟨o,hk,hc,hd⟩ | ⟨xs,hx⟩⟩ | ⟨rfl,hk⟩ | ⟨rfl,S,n,hk⟩
  ·obtain ⟨its,_,pl,_⟩:=I.list hq
   refine ⟨pl.isList.typeIs,fun a e=>?_⟩
   cases e
   obtain ⟨o,n,e,c,hd,_⟩:=pl
   exact ⟨o,e,hd⟩
  ·refine ⟨⟨o,I.kIn p o hk,hc⟩,fun a e=>?_⟩
   cases e
   exact ⟨o,I.kIn _ o hk,hd⟩
  ·obtain ⟨_,its,_,o,h1,h2,n,_,h3⟩:=I.hok p _ hx
   refine ⟨⟨o,h1,h2⟩,fun a e=>?_⟩
   cases e
   exact ⟨o,h1,h3⟩
  ·have z:∃o,s.heap.get? p=some o∧o.ExactDict:=by
    rcases hk with ⟨kvs,hk⟩ | ⟨kvs,hk⟩
    ·obtain ⟨_,_,_,_,o,_,_,e,ex,_⟩:=I.hok p _ hk
     exact ⟨o,e,ex⟩
    ·obtain ⟨_,_,_,_,o,_,_,e,ex,_⟩:=I.hok p _ hk
     exact ⟨o,e,ex⟩
   obtain ⟨o,e,ex⟩:=z
   refine ⟨⟨o,e,ex.1⟩,fun a e2=>?_⟩
   cases e2
   exact ⟨o,e,ex.2.1⟩
  ·obtain ⟨o,_,_,_,e,ex,_⟩:=I.hok p _ hk
   refine ⟨⟨o,e,ex.1⟩,fun a e2=>?_⟩
   cases e2
   exact ⟨o,e,ex.2.1⟩
 | _=>exact False.elim ty
def tBM0 (K:PySem.W.Frag) (T:String) (r:V→List V→Hp→VK→Prop) (to:TE):TE:=fun σ H Q=>to σ H fun x H1=>tyV K T x H1∧r x [] H1 Q
def tBM (K:PySem.W.Frag) (T:String) (r:V→List V→Hp→VK→Prop) (to:TE) (t:TA):TE:=fun σ H Q=>to σ H fun x H1=>tyV K T x H1∧t σ H1 fun xs H2=>r x xs H2 Q
variable {o e:Expr} {es:List Expr} {to:TE} {t:TA} {name:Str} {apos cpos:Pos} {T id:String} {r:V→List V→Hp→VK→Prop}
theorem pe_bm0 (pa:PlainAttrs T) (slot:Slot T name id) (hty:typeOf (.builtin id)=pure (.type "method_descriptor")) (hm:MtR X id r) (ho:PE X o to)
  (hbase:attributeBase o name X.env (eval o X.env)=eval o X.env:=by rfl) (hline:(apos.endLine==cpos.line)=true:=by rfl):PE X (.Call (.Attribute o name apos) [] [] cpos) (tBM0 X.K T r to):=by
 intro pins s σ H Q I h
 refine wpAny_Call_method0_late hbase hline (thn (ho pins s σ H _ I h) fun v s1 ⟨x,H1,I1,r1,ty,q1⟩=>?_)
 obtain ⟨h1,h2⟩:=K8 I1 r1 ty
 exact ⟨T,id,pa,slot,hty,h1,h2,Calls.callWith_builtin rfl (PySem.evalArgs_none (hm pins s1 σ H1 x [] v [] Q I1 r1 .nil q1))⟩
theorem pe_bm (pa:PlainAttrs T) (slot:Slot T name id) (hty:typeOf (.builtin id)=pure (.type "method_descriptor")) (hm:MtR X id r) (ho:PE X o to) (ha:PA X (e::es) t)
  (hbase:attributeBase o name X.env (eval o X.env)=eval o X.env:=by rfl)
  (hfew:((backTo cpos (starEach (e::es) X.env)).all (fun x=>!x.1)&&(backToKw cpos (keywordEach [] X.env)).all (fun x=>x.1.isSome)
   &&decide ((e::es).length+([]:List Keyword).length+(if ([]:List Keyword).isEmpty then 0 else 1) < 30))=true:=by rfl)
  (hline:(apos.endLine==cpos.line)=true:=by rfl) (hs:starEach (e::es) X.env=(false,eval e X.env)::starEach es X.env:=by rfl) (hplain:(backTo cpos (starEach es X.env)).any (·.1)=false:=by rfl):
  PE X (.Call (.Attribute o name apos) (e::es) [] cpos) (tBM X.K T r to t):=by
 intro pins s σ H Q I h
 refine wpAny_Call_method_late hbase hfew hline rfl (thn (ho pins s σ H _ I h) fun v s1 ⟨x,H1,I1,r1,ty,q1⟩=>?_)
 obtain ⟨h1,h2⟩:=K8 I1 r1 ty
 refine ⟨T,id,pa,slot,hty,h1,h2,?_⟩
 have hA:=ha cpos pins s1 σ H1 _ I1 q1
 rw [hs] at hA ⊢
 refine Calls.callWith_builtin (by show (false||(backTo cpos (starEach es X.env)).any (·.1))=false;rw [hplain] <;> rfl) (Calls.evalArgs_plain ?_)
 exact thn hA fun us s2 ⟨vs,H2,I2,r2,q2⟩=>hm pins s2 σ H2 x vs v us Q I2 r1 r2 q2
end
end L2
namespace L2
open PySem PySem.Spec PyProof.Rows
def MtM (X:Cx) (id:String) (r:V→List V→Hp→VK→Prop):Prop:=
 ∀(pins:List (Addr×Obj)) (s:Shared) (σ:St) (H:Hp) (x:V) (xs:List V) (v:Value) (us:List Value) (Q:VK),Inv X pins σ H s→RelV x v→Vals xs us→r x xs H Q→
  wpAny (model X.prog X.w) X.A (call (.builtin id) (v::us)) (EP X pins σ Q) X.xe s
theorem Vals.one:∀{x:V} {us:List Value},Vals [x] us→∃u,us=[u]∧RelV x u
 | _,_,.cons r .nil=>⟨_,rfl,r⟩
theorem Vals.zero:∀{us:List Value},Vals [] us→us=[]
 | _,.nil=>rfl
theorem Vals.dropLast {xs:List V} {us:List Value} (h:Vals xs us):Vals xs.dropLast us.dropLast:=by
 induction h with
 | nil=>exact .nil
 | cons r t ih=>
  cases t with
  | nil=>exact .nil
  | cons q t'=>exact .cons r ih
theorem Vals.reverse {xs:List V} {us:List Value} (h:Vals xs us):Vals xs.reverse us.reverse:=by
 induction h with
 | nil=>exact .nil
 | cons r t ih=>rw [List.reverse_cons,List.reverse_cons];exact Vals.append ih (.cons r .nil)
theorem Vals.rep {xs:List V} {us:List Value} (h:Vals xs us):∀k:Nat,Vals (List.replicate k xs).flatten (List.replicate k us).flatten
 | 0=>.nil
 | k+1=>by
  rw [List.replicate_succ,List.replicate_succ,List.flatten_cons,List.flatten_cons]
  exact Vals.append h (Vals.rep h k)
theorem Bw {α:Type} (l:List α):l.eraseIdx (l.length - 1)=l.dropLast:=by
 induction l with
 | nil=>rfl
 | cons a r ih=>
  cases r with
  | nil=>rfl
  | cons b r=>
   have e:(a::b::r).length - 1=((b::r).length - 1)+1:=by
    have h1:(a::b::r).length=r.length+2:=rfl
    have h2:(b::r).length=r.length+1:=rfl
    omega
   rw [e,List.eraseIdx_cons_succ,ih]
   all_goals rfl
theorem foldl_rep (its:List Value):∀(k:Nat) (acc:List Value),
  List.foldl (fun x1 x2=>x1++x2) acc.toArray (List.replicate k its.toArray)=(acc++(List.replicate k its).flatten).toArray
 | 0,acc=>by simp
 | k+1,acc=>by
  have e:acc.toArray++its.toArray=(acc++its).toArray:=by simp
  have e2:(acc++its)++(List.replicate k its).flatten=acc++(List.replicate (k+1) its).flatten:=by
   rw [List.replicate_succ,List.flatten_cons,List.append_assoc]
  rw [←e2,←foldl_rep its k (acc++its),←e,List.replicate_succ,List.foldl_cons]
section
variable {X:Cx} {pins:List (Addr×Obj)} {σ:St} {H:Hp} {s:Shared} {l b:Addr} {xs ys zs:List V}
theorem Inv.lset {its its':List Value} {n:Nat} {f:Array Value→Array Value} {t':Nat} (I:Inv X pins σ H s) (hH:H l=some (.lst xs))
  (e:s.heap.get? l=some { cls:=.type "list",data:=.seq its.toArray n }) (hf:f its.toArray=its'.toArray) (hv:Vals ys its') (hz:ys.length≤sizeLine):
  Inv X pins σ (upd H l (.lst ys)) { s with heap:=s.heap.update l (Obj.mapSeq f),toks:=t' }:=by
 have q:=PySem.IsL.update e f
 rw [hf] at q
 refine I.write (x:=l) (e:=l) (by rw [hH];exact trivial) (.inl rfl) (fun b' u hb hu=>(Heap.get?_update_other s.heap (Obj.mapSeq f) (Ne.symm hb)).trans hu) ⟨_,q⟩ ?_
 exact ⟨hz,its',_,hv,q⟩
theorem Inv.lnew {its:List Value} {t':Nat} (I:Inv X pins σ H s) (hv:Vals ys its) (hz:ys.length≤sizeLine):
  Inv X pins σ (upd H s.heap.objs.size (.lst ys)) { s with heap:=s.heap.push { cls:=.type "list",data:=.seq its.toArray },toks:=t' }:=
 I.laid (fun _ _ q=>Heap.get?_push_of_some _ q) (Nat.le_refl _) ⟨hz,its,0,hv,Heap.get?_push_size _ rfl⟩
theorem Inv.fresh (I:Inv X pins σ H s):H s.heap.objs.size=none:=I.hok.fresh (Nat.le_refl _)
theorem Inv.Bp (I:Inv X pins σ H s) (hH:H l=some (.lst xs)):xs.length≤sizeLine∧∃(its:List Value) (n:Nat),Vals xs its∧xs.length=its.length∧s.heap.get? l=some { cls:=.type "list",data:=.seq its.toArray n }:=by
 obtain ⟨z,its,n,r,e⟩:=I.hok l _ hH
 exact ⟨z,its,n,r,r.length,e⟩
theorem zr {n:Nat} (h:n≤sizeLine):Builtin.List.listTooLong n=false:=by
 unfold Builtin.List.listTooLong
 exact decide_eq_false (by omega)
end
section
variable {X:Cx}
def oa:V→List V→Hp→VK→Prop:=fun x vs H Q=>∃l xs y,x=.ref l∧vs=[y]∧H l=some (.lst xs)∧xs.length < sizeLine∧Q .non (upd H l (.lst (xs++[y])))
theorem xx:MtM X "list.append" oa:=by
 intro pins s σ H x vs v us Q I rx rv h
 obtain ⟨l,xs,y,rfl,rfl,hH,hz,q⟩:=h
 cases rx
 obtain ⟨u,rfl,ru⟩:=rv.one
 obtain ⟨z,its,n,r,hl,e⟩:=I.Bp hH
 refine call_meets F.slot_list_append ⟨_,e,rfl⟩ F.entry_list_append (F.args_list_append_2 _ _) (PySem.list_append l its.toArray n u (by rw [List.size_toArray];omega)) ⟨e,?_⟩
 refine ⟨.non,_,I.lset (its':=its++[u]) hH e (by simp) (r.append (.cons ru .nil)) ?_,rfl,q⟩
 rw [List.length_append,List.length_singleton]
 omega
def Nv:V→List V→Hp→VK→Prop:=fun x vs H Q=>∃l b xs zs,x=.ref l∧vs=[.ref b]∧H l=some (.lst xs)∧H b=some (.lst zs)∧xs.length+zs.length≤sizeLine∧Q .non (upd H l (.lst (xs++zs)))
theorem xi:MtM X "list.extend" Nv:=by
 intro pins s σ H x vs v us Q I rx rv h
 obtain ⟨l,b,xs,zs,rfl,rfl,hH,hB,hz,q⟩:=h
 cases rx
 obtain ⟨u,rfl,ru⟩:=rv.one
 cases ru
 obtain ⟨z,its,n,r,hl,e⟩:=I.Bp hH
 obtain ⟨z2,its2,n2,r2,hl2,e2⟩:=I.Bp hB
 have hsz:its.toArray.size+its2.toArray.size≤sizeLine:=by rw [List.size_toArray,List.size_toArray];omega
 have hlong:¬(!its.toArray.isEmpty&&Builtin.List.listTooLong (its.toArray.size+its2.toArray.size))=true:=by
  rw [zr hsz,Bool.and_false]
  exact Bool.false_ne_true
 refine call_meets F.slot_list_extend ⟨_,e,rfl⟩ F.entry_list_extend (F.args_list_extend_2 _ _)
  (AutoSeq1.list_extend_list_list_0 l its.toArray n b its2.toArray n2 hlong (by rw [List.size_toArray];omega) (by omega)) ⟨e,e2,?_⟩
 refine ⟨.non,_,I.lset (its':=its++its2) hH e (by simp) (r.append r2) ?_,rfl,q⟩
 rw [List.length_append]
 omega
def rPop:V→List V→Hp→VK→Prop:=fun x vs H Q=>∃l xs y,x=.ref l∧vs=[]∧H l=some (.lst xs)∧xs[xs.length - 1]?=some y∧Q y (upd H l (.lst xs.dropLast))
theorem yw:MtM X "list.pop" rPop:=by
 intro pins s σ H x vs v us Q I rx rv h
 obtain ⟨l,xs,y,rfl,rfl,hH,hy,q⟩:=h
 cases rx
 have hus:=rv.zero
 subst hus
 obtain ⟨z,its,n,r,hl,e⟩:=I.Bp hH
 obtain ⟨u,hu,ru⟩:=r.get hy
 have hy':its.toArray[its.toArray.size - 1]?=some u:=by
  show its.toArray[its.length - 1]?=some u
  rw [←Array.getElem?_toList,←hl]
  exact hu
 refine call_meets F.slot_list_pop ⟨_,e,rfl⟩ F.entry_list_pop (F.args_list_pop_1 _) (MeetsSeq.list_pop_last l its.toArray n u hy' (by rw [List.size_toArray];omega)) ⟨e,?_⟩
 refine ⟨y,_,I.lset (its':=its.dropLast) hH e ?_ r.dropLast ?_,ru,q⟩
 ·show its.toArray.eraseIdxIfInBounds (its.toArray.size - 1)=its.dropLast.toArray
  rw [List.size_toArray,List.eraseIdxIfInBounds_toArray,Bw]
 ·rw [List.length_dropLast]
  omega
def Je:V→List V→Hp→VK→Prop:=fun x vs H Q=>∃l xs,x=.ref l∧vs=[]∧H l=some (.lst xs)∧Q .non (upd H l (.lst xs.reverse))
theorem Dn:MtM X "list.reverse" Je:=by
 intro pins s σ H x vs v us Q I rx rv h
 obtain ⟨l,xs,rfl,rfl,hH,q⟩:=h
 cases rx
 have hus:=rv.zero
 subst hus
 obtain ⟨z,its,n,r,hl,e⟩:=I.Bp hH
 refine call_meets F.slot_list_reverse ⟨_,e,rfl⟩ F.entry_list_reverse (F.args_list_reverse_1 _) (AutoSeq1.list_reverse_list_0 l its.toArray n (by rw [List.size_toArray];omega)) ⟨e,?_⟩
 refine ⟨.non,_,I.lset (its':=its.reverse) hH e (by simp) r.reverse ?_,rfl,q⟩
 rw [List.length_reverse]
 omega
def rCat:R2:=fun x y H Q=>∃l b xs zs,x=.ref l∧y=.ref b∧H l=some (.lst xs)∧H b=some (.lst zs)∧xs.length+zs.length≤sizeLine∧∀p,H p=none→Q (.ref p) (upd H p (.lst (xs++zs)))
theorem op_cat:OpR X (binaryOp .Add) rCat:=by
 intro pins s σ H x y v u Q I rx ry h
 obtain ⟨l,b,xs,zs,rfl,rfl,hH,hB,hz,q⟩:=h
 cases rx
 cases ry
 obtain ⟨z,its,n,r,hl,e⟩:=I.Bp hH
 obtain ⟨z2,its2,n2,r2,hl2,e2⟩:=I.Bp hB
 refine PySem.P.add_list e e2 ?_ (by rw [List.size_toArray,List.size_toArray];omega)
 have ea:its.toArray++its2.toArray=(its++its2).toArray:=by simp
 rw [ea]
 exact ⟨.ref _,_,I.lnew (t':=s.toks) (r.append r2) (by rw [List.length_append];omega),rfl,q _ I.fresh⟩
def rRep:R2:=fun x y H Q=>∃l k xs,x=.ref l∧y=.int k∧H l=some (.lst xs)∧-(2 ^ 63)≤k∧k < 2 ^ 63∧xs.length*k.toNat≤sizeLine∧
 ∀p,H p=none→Q (.ref p) (upd H p (.lst (List.replicate k.toNat xs).flatten))
theorem len_rep {α:Type} (xs:List α) (k:Nat):(List.replicate k xs).flatten.length=k*xs.length:=by
 induction k with
 | zero=>simp
 | succ k ih=>rw [List.replicate_succ,List.flatten_cons,List.length_append,ih,Nat.succ_mul,Nat.add_comm]
theorem op_rep:OpR X (binaryOp .Mult) rRep:=by
 intro pins s σ H x y v u Q I rx ry h
 obtain ⟨l,k,xs,rfl,rfl,hH,h1,h2,hz,q⟩:=h
 cases rx
 obtain ⟨t,rfl⟩:=ry
 obtain ⟨z,its,n,r,hl,e⟩:=I.Bp hH
 have hlen:its.toArray.size*k.toNat≤sizeLine:=by rw [List.size_toArray,←hl];exact hz
 have hcap:¬its.toArray.size*k.toNat > (2 ^ 63 - 1) / 8:=by
  have:(sizeLine:Nat)≤(2 ^ 63 - 1) / 8:=by decide
  omega
 have hfit:¬(!Builtin.List.listFitsIndex k)=true:=by
  rw [fitsIndex_both h1 h2]
  exact Bool.false_ne_true
 have hlong:¬Builtin.List.listTooLong (its.toArray.size*k.toNat)=true:=by
  rw [zr hlen]
  exact Bool.false_ne_true
 have hnew:List.foldl (fun x1 x2=>x1++x2) #[] (List.replicate (if its.toArray.isEmpty=true then 0 else k.toNat) its.toArray)=(List.replicate k.toNat its).flatten.toArray:=by
  have f0:∀m:Nat,List.foldl (fun x1 x2=>x1++x2) #[] (List.replicate m its.toArray)=(List.replicate m its).flatten.toArray:=fun m=>by
   have:=foldl_rep its m []
   rw [List.nil_append] at this
   exact this
  rw [f0]
  cases its with
  | nil=>simp
  | cons a r'=>rw [if_neg (by simp)]
 refine wpAny_binaryOp_repeat_ref (T:="list") (U:="int") (by decide) ⟨_,e,rfl⟩ (fun s'=>typeIs_int s' k t) noFill_list_mul F.fills_int_mul F.slot_int_rmul repeat_list F.slot_int_index.lookup
  (call_meets F.slot_int_rmul (typeIs_int s k t) F.entry_int_rmul (F.args_int_rmul_2 _ _) (int___rmul___int_list k t l its.toArray n)
   ⟨e,rfl,⟨_,e,rfl⟩,call_meets F.slot_list_mul ⟨_,e,rfl⟩ F.entry_list_mul (F.args_list_mul_2 _ _) (AutoListH.list___mul___list_int_3 l its.toArray n k t hfit hcap hlong) ⟨e,?_⟩⟩)
 rw [hnew]
 exact ⟨.ref _,_,I.lnew (t':=s.toks) (r.rep k.toNat) (by rw [len_rep,Nat.mul_comm];exact hz),rfl,q _ I.fresh⟩
end
section
variable {prog:Program} {w:World} {A:Around} {E:Value→Shared→Prop} {s:Shared}
set_option maxRecDepth 100000 in
end
section
variable {X:Cx}
end
end L2
namespace Att
open PySem PySem.W PySem.Calls PyProof.Rows
theorem ql {P:Params} {h:Heap}:∀(ns:List Int) (vs:List Value),WellAll P h vs (ns.map WData.int)→IntsAre vs ns:=by
 intro ns
 induction ns with
 | nil=>
  intro vs w
  rw [List.map_nil] at w
  cases w
  exact .nil
 | cons n ns ih=>
  intro vs w
  rw [List.map_cons] at w
  cases w with
  | cons a b=>
   cases a
   exact .cons _ _ (ih _ b)
theorem G7 {l:OpenLaw} {n:Nat} (hn:l.most=some n) {P:Params} {h:Heap} {args:List WData} {vals:List Value}
  (hpre:l.row.toRowW.claim.pre args=true) (hwl:WellAll P h vals args):
  ∃a vs ns,vals=[Value.ref a]∧args=[WData.list (ns.map WData.int)]∧h.get? a=some { cls:=.type "list",data:=.seq vs.toArray }∧IntsAre vs ns∧ns.length≤n:=by
 have hsh:WShape.hasAll [] args [.list .int]=true:=(pre_splitW hpre).1
 have hc:l.pre.holds [] { args:=args }=true:=(pre_splitW hpre).2
 obtain ⟨d,r,rfl,h1,h2⟩:=hasAllW_cons hsh
 obtain rfl:=hasAllW_nil h2
 obtain ⟨xs,rfl,h3⟩:=hasW_list h1
 obtain ⟨ns,rfl⟩:=items_int h3
 have hlen:ns.length≤n:=by
  unfold OpenLaw.pre at hc
  have h4:(WTm.not (.lt (.lit (.int (n:Int))) (.len (.arg 0)))).holds [] { args:=[.list (ns.map .int)] }=true:=by
   have h4:=(holds_andW hc).1
   rw [hn] at h4
   exact h4
  have h5:=condW_of h4 (w_not (w_lt w_lit (w_len_list (w_arg rfl))))
  rw [List.length_map] at h5
  refine Nat.le_of_not_lt fun q=>?_
  have q':(n:Int) < ((ns.length:Nat):Int):=by omega
  first
   | (rw [decide_eq_true q'] at h5;exact absurd h5 (by decide))
   | (simp at h5;omega)
 cases hwl with
 | cons w1 w2=>
  cases w2
  cases w1 with
  | list ho hall=>exact ⟨_,_,ns,rfl,rfl,ho,ql ns _ hall,hlen⟩
theorem Hj (l:OpenLaw) (args:List WData):l.row.toRowW.claim.post args (.bool true) args=true:=
 postW_of (r:=l.row.toRowW) (X:=(true==true))
  (show WShape.has [] (.bool true) .bool=true by first | rfl | decide | simp [WShape.has,WShape.arms,WShape.armsAll])
  (show (WTm.eq .res (.lit (.bool true))).value [] { args:=args,res:=some (.bool true),after:=args }=some (.bool (true==true)) from w_eq_bool (w_res rfl) w_lit) rfl
theorem Bf {l:OpenLaw} {n:Nat} {q:Program} {loose:List Str} {XP:(Str→Option Value)→Heap→Prop} {YP:World→Heap→Prop} {d:DefRec}
  (hn:l.most=some n) (hdf:d.params.defaults=[])
  (call:∀(w:World) (s₀ s₁:Shared) (mg mb:Str→Option Value) (fa:Addr) (o:Obj) (pm cd doc:Value) (a:Addr) (vs:List Value) (ns:List Int),
   Ground q loose [] XP w s₀ mg mb s₁.heap→YP w s₁.heap→
   s₁.heap.get? fa=some o→o.data=.func (docDef d.name d.params d.body d.scope pm cd doc)→s₁.heap.CodeRec cd d.name→mg d.name=some (.ref fa)→
   s₁.heap.get? a=some { cls:=.type "list",data:=.seq vs.toArray }→IntsAre vs ns→ns.length≤n→s₁.gens=#[]→
   codeAny (model l.prog w) callerA (.call (.ref fa) ⟨[.ref a],[]⟩) (fun r s'=>r=.ok (.ret (.bool true))∧OldK s₁.heap s'.heap∧s'.os=s₁.os∧AllBare s'.gens) s₁):
  WalkO q loose XP YP l.row.toRowW d [] (fun f vs=>PySem.call f vs):=by
 intro w s₀ s₁ mg mb G Y fa o pm cd doc dV kV ho hd hcd hD hmg hg args vals as hpre hlay hrd hwl hlo
 obtain rfl:dV=.none:=Dflts.none hD hdf
 obtain rfl:kV=.none:=Dflts.noKw hD
 obtain ⟨a,vs,ns,rfl,rfl,hobj,hints,hlen⟩:=G7 hn hpre hwl
 refine enter_call (codeAny_mono (call w s₀ s₁ mg mb fa o pm cd doc a vs ns G Y ho (fd_plain hd) hcd hmg hobj hints hlen hg) fun r s' hq=>?_)
 obtain ⟨rfl,h2,h3,h4⟩:=hq
 exact ⟨.inl ⟨.bool true,.bool true,[],rfl,fun _=>rfl,.bool true,Hj l _,fun _=>⟨List.Pairwise.nil,fun _ hm=>(nomatch hm)⟩⟩,h2,h3,h4⟩
section
variable {prog:Program} {w:World} {A:Around} {E:Value→Shared→Prop} {s:Shared} {K:Frag}
end
end Att
namespace L2
open PySem PySem.Spec PyProof.Rows
theorem wk:∀{vs:List Value} {ns:List Int},IntsAre vs ns→Vals (ns.map V.int) vs
 | _,_,.nil=>.nil
 | _,_,.cons n t h=>.cons ⟨t,rfl⟩ (wk h)
def Only (H:Hp):Prop:=∀b,H b=none∨∃o xs,H b=some (.frz o (.lst xs))
theorem Ki {P:Program} {w:World} {K:PySem.W.Frag} {mg mb:Str→Option Value} {CX:CXT} {k:Nat} {fa a:Addr} {fd:FuncData} {x:Str} {sp:Sp} {s₁:Shared} {vs:List Value} {ns:List Int}
  (KX:K.In s₁.heap) (hns:s₁.heap.Ns mainGlobals mg) (hb:s₁.heap.Ns builtinsNs mb) (hbb:∀x:Str,x≠"__name__"→mb x=bootBuiltins x) (hlim:s₁.heap.NoLimit) (hg:s₁.gens=#[])
  (ha:s₁.heap.get? a=some { cls:=.type "list",data:=.seq vs.toArray }) (hi:IntsAre vs ns) (hl:ns.length≤sizeLine) (hr:gy k callerA)
  (F:∀base:Heap,K.In base→base.Ns mainGlobals mg→n8 P w K mg base CX k fa fd [x] sp) (hbind:∀(s:Shared) (u:Value),BindsTo s fd ⟨[u],[]⟩ [(x,u)])
  (hsp:∀H:Hp,Only H→SqL K H a (ns.map V.int)→sp [.ref a] H (fun v _=>v=.bl true) fun _ _ _=>False)
  (hCX:∀H e s',CX [] H s₁ (fun _ _ _=>False) e s'→False):
  codeAny (model P w) callerA (.call (.ref fa) ⟨[.ref a],[]⟩) (fun r s'=>r=.ok (.ret (.bool true))∧OldK s₁.heap s'.heap∧s'.os=s₁.os∧AllBare s'.gens) s₁:=by
 have rv:=wk hi
 have lenV:=hi.length
 have core:∀H:Hp,Only H→SqL K H a (ns.map V.int)→HOk P w H s₁.heap→(∀b,H b≠none→b=a)→(H a≠none→K.lookup a=none)→
   codeAny (model P w) callerA (.call (.ref fa) ⟨[.ref a],[]⟩) (fun r s'=>r=.ok (.ret (.bool true))∧OldK s₁.heap s'.heap∧s'.os=s₁.os∧AllBare s'.gens) s₁:=by
  intro H hO hS hok hA hK
  have base_of:∀{b:Addr} {o:Obj},s₁.heap.get? b=some o→H b=none→(yk s₁.heap H).get? b=some o:=fun e n=>J3 e n
  have noA:∀{b:Addr} {o:Obj} {es:Array DictEntry} {ep:Nat},s₁.heap.get? b=some o→o.data=.dict es ep→H b=none:=fun {b o es ep} e d=>by
   cases q:H b with
   | none=>rfl
   | some u=>
    have e':b=a:=hA b (by rw [q];simp)
    subst e'
    rw [ha] at e;cases e
    have d':Data.seq vs.toArray _=Data.dict es ep:=d
    cases d'
  have nsK:∀{b:Addr} {m:Str→Option Value},s₁.heap.Ns b m→(yk s₁.heap H).Ns b m:=fun {b m} ⟨o,es,ep,e,d,r⟩=>⟨o,es,ep,base_of e (noA e d),d,r⟩
  have hKb:K.In (yk s₁.heap H):=fun b o e=>base_of (KX b o e) (by
   cases q:H b with
   | none=>rfl
   | some u=>
    have e':b=a:=hA b (by rw [q];simp)
    subst e'
    rw [hK (by rw [q];simp)] at e;cases e)
  have hM:Mod K mg (yk s₁.heap H):=⟨hKb,nsK hns,⟨mb,nsK hb,hbb⟩,let ⟨mc,h1,h2⟩:=hlim;⟨mc,nsK h1,h2⟩⟩
  have e0:Env0 P w K mg (yk s₁.heap H) callerA [] s₁ H:=⟨rfl,hM,fun b o e=>Nh e,Nat.le_of_eq (Fw _ _),trivial,fun b hb=>absurd (show b∈([]:List Addr) from hb) (by simp),hok,.of_eq hg⟩
  refine codeAny_mono ((F _ hKb (nsK hns)).run callerA [] s₁ H ⟨[.ref a],[]⟩ [.ref a] [.ref a] _ _ hr e0 (hbind s₁ (.ref a)) (.cons rfl .nil) (hsp H hO hS)) fun r s' h=>?_
  cases r with
  | error e=>exact (hCX H e s' h).elim
  | ok fl=>
   cases fl with
   | next=>exact False.elim h
   | brk=>exact False.elim h
   | cont=>exact False.elim h
   | ret u=>
    obtain ⟨v,H',os,bare,un,hok',r',q⟩:=h
    have q':v=.bl true:=q
    subst q'
    obtain rfl:u=Value.bool true:=r'
    refine ⟨rfl,OldK.of_keep fun b o e=>?_,os,bare⟩
    cases q:H b with
    | none=>exact un.keep b o e q (by intro z;exact absurd (show b∈([]:List Addr) from z) (by simp)) (by simp)
    | some u=>
     rcases hO b with z | ⟨ob,xs,z⟩
     ·rw [q] at z;cases z
     ·have z2:=un.frzs b ob _ z
      obtain ⟨e1,_⟩:=hok b _ z
      obtain ⟨e2,_⟩:=hok' b _ z2
      rw [e] at e1;cases e1
      exact e2
 cases hk:K.lookup a with
 | some o=>
  have e:=KX a o hk
  rw [ha] at e
  cases e
  refine core (fun _=>none) (fun _=>.inl rfl) (.inr ⟨_,vs.toArray,_,hk,rfl,rfl,rfl,by rw [List.size_toArray,lenV];exact hl,by simpa using rv⟩) (fun b u z=>by have z':(none:Option HO)=some u:=z;cases z') (fun b z=>absurd rfl z) fun z=>absurd rfl z
 | none=>
  refine core (fun b=>if b=a then some (.frz { cls:=.type "list",data:=.seq vs.toArray } (.lst (ns.map V.int))) else none) (fun b=>?_) (.inl (.inr ⟨{ cls:=.type "list",data:=.seq vs.toArray },if_pos rfl⟩)) (fun b u z=>?_) (fun b z=>?_) fun _=>hk
  ·by_cases hb:b=a
   ·exact .inr ⟨_,_,if_pos hb⟩
   ·exact .inl (if_neg hb)
  ·by_cases hb:b=a
   ·have z':=(if_pos hb).symm.trans z
    cases z'
    subst hb
    exact ⟨ha,by rw [List.length_map];exact hl,vs,_,rv,ha⟩
   ·have z':=(if_neg hb).symm.trans z
    cases z'
  ·by_cases hb:b=a
   ·exact hb
   ·exact absurd (if_neg hb) z
end L2
namespace L2
open PySem PySem.Spec PyProof.Rows
noncomputable abbrev KOf {K:PySem.W.Frag} {h:Heap} (_:K.In h):PySem.W.Frag:=K
theorem Mz {l:PySem.W.OpenLaw} {n k:Nat} {q:Program} {loose:List Str} {XP:(Str→Option Value)→Heap→Prop} {YP:World→Heap→Prop} {d:DefRec} {K:Params→PySem.W.Frag} {CX:World→CXT} {sp:World→Sp} {x:Str}
  (hn:l.most=some n) (hn2:n≤sizeLine) (hdf:d.params.defaults=[]) (hr:gy k callerA)
  (hY:∀(w:World) (h:Heap),YP w h→(K w.params).In h)
  (F:∀(w:World) (mg:Str→Option Value) (fa:Addr) (h:Heap),(K w.params).In h→h.Ns mainGlobals mg→mg d.name=some (.ref fa)→
   ∃fd:FuncData,(∀(s:Shared) (u:Value),BindsTo s fd ⟨[u],[]⟩ [(x,u)])∧
    ∀base:Heap,(K w.params).In base→base.Ns mainGlobals mg→n8 l.prog w (K w.params) mg base (CX w) k fa fd [x] (sp w))
  (hsp:∀(w:World) (H:Hp) (a:Addr) (ns:List Int),ns.length≤n→Only H→SqL (K w.params) H a (ns.map V.int)→sp w [.ref a] H (fun v _=>v=.bl true) fun _ _ _=>False)
  (hCX:∀(w:World) (H:Hp) (s:Shared) (e:Value) (s':Shared),CX w [] H s (fun _ _ _=>False) e s'→False):
  PySem.W.WalkO q loose XP YP l.row.toRowW d [] (fun f vs=>PySem.call f vs):=by
 refine Att.Bf hn hdf fun w s₀ s₁ mg mb fa o pm cd doc a vs ns G Y ho hd hcd hmg hobj hints hlen hg=>?_
 have KX:=hY w _ Y
 obtain ⟨fd,hb,hF⟩:=F w mg fa _ KX G.T.g hmg
 exact Ki KX G.T.g G.T.b G.T.builtins G.T.nolimit hg hobj hints (Nat.le_trans hlen hn2) hr hF hb (fun H hO hS=>hsp w H a ns hlen hO hS) fun H e s'=>hCX w H s₁ e s'
end L2
namespace L2
open PySem PySem.Spec PyProof.Rows
noncomputable def bb (s:Stmt):Arguments:=match s with
 | .FunctionDef _ a _ _ _ _ _ _ _ _=>a
 | _=>{ posonlyargs:=[],args:=[],vararg:=none,kwonlyargs:=[],kw_defaults:=[],kwarg:=none,defaults:=[] }
noncomputable def ay (s:Stmt):List Stmt:=match s with
 | .FunctionDef _ _ b _ _ _ _ _ _ _=>b
 | _=>[]
noncomputable def ah (s:Stmt):Scope:=match s with
 | .FunctionDef _ _ _ _ _ _ sc _ _ _=>sc
 | _=>{ kind:=.function,names:=[],isGenerator:=false,isCoroutine:=false }
noncomputable abbrev CX0:CXT:=fun _ _ _ _ _ _=>False
abbrev E0:XK:=fun _ _ _=>False
theorem pass0 {X:Cx}:Passes CX0 X E0:=fun _ _ _ _ _ _ _ h=>h.elim
structure Fun (K:PySem.W.Frag) (x qual:Str) (st:Stmt) (f:Addr) (fd:FuncData):Prop where
 ex:∃(oc:Value) (od:Option Addr) (kV doc pm:Value) (an:Option Addr) (cdv ct:Value) (osl:Array (Option Value)),
  fd=PySem.W.fnOf x qual (bb st) (ay st) (ah st) .none kV doc pm an cdv ct∧K.lookup f=some ⟨oc,od,.func fd,osl⟩∧PySem.W.codeIn K cdv qual=true
 kp:PySem.W.keepIn K (.ref f)=true
section
variable {P:Program} {w:World} {K:PySem.W.Frag} {mg:Str→Option Value} {base:Heap}
theorem Fun.ok {x qual:Str} {st:Stmt} {f:Addr} {fd:FuncData} {N ps:List Str} {k:Nat} {sp:Sp} (F:Fun K x qual st f fd) (S:az N ps (ah st)) (len:∀vs H Q E,sp vs H Q E→vs.length=ps.length)
  (hbody:∀(cdv:Value) (A:Around) (outer:List Env) (s:Shared) (H:Hp) (vs:List V) (Q:VK) (E:XK),gy k (A.deeper (envOfC qual (ah st) s.heap.objs.size f cdv))→sp vs H Q E→
   ∃t,PSs (qp CX0 P w K mg base N qual (ah st) f cdv A outer s H E).nox (ay st) t∧t { nx:=fun _ H'=>Q .non H',rt:=Q } (start N vs) H):n8 P w K mg base CX0 (k+1) f fd ps sp:=by
 obtain ⟨oc,od,kV,doc,pm,an,cdv,ct,osl,rfl,lk,hcd⟩:=F.ex
 refine fn_of lk hcd S len fun A outer s H vs Q E hr hsp=>?_
 obtain ⟨t,h,q⟩:=hbody cdv A outer s H vs Q E hr hsp
 exact ⟨t,h.nox,q⟩
theorem Fun.binds {x qual:Str} {st:Stmt} {f:Addr} {fd:FuncData} {ps:List Str} (F:Fun K x qual st f fd)
  (h:∀(kV doc pm:Value) (an:Option Addr) (cdv ct:Value) (us:List Value),us.length=ps.length→bindArgs (PySem.W.fnOf x qual (bb st) (ay st) (ah st) .none kV doc pm an cdv ct) ⟨us,[]⟩=pure (ps.zip us)):Binds K fd ps []:=by
 obtain ⟨oc,od,kV,doc,pm,an,cdv,ct,osl,rfl,lk,hcd⟩:=F.ex
 exact .all (h kV doc pm an cdv ct)
theorem bw {x qual:Str} {st:Stmt} {f:Addr} {oc:Value} {od an:Option Addr} {osl:Array (Option Value)} {kV doc pm cdv ct:Value} (l:K.lookup f=some ⟨oc,od,.func (PySem.W.fnOf x qual (bb st) (ay st) (ah st) .none kV doc pm an cdv ct),osl⟩)
  (c:PySem.W.codeIn K cdv qual=true) (k:PySem.W.keepIn K (.ref f)=true):Fun K x qual st f (PySem.W.fnOf x qual (bb st) (ay st) (ah st) .none kV doc pm an cdv ct):=⟨⟨oc,od,kV,doc,pm,an,cdv,ct,osl,rfl,l,c⟩,k⟩
end
theorem b7 {A:Around} {k:Nat} (hr:gy k A):A.units+1 < cLine:=Nat.lt_of_le_of_lt (Nat.add_le_add_left (by decide:1≤64) _) hr.units
section
variable {X:Cx}
theorem pv (i:Nat) {x:Str} {pos:Pos} (hN:X.N[i]?=some x:=by rfl) (hv:Vis X.env.scope x:=by first | exact Or.inl rfl | exact Or.inr (Or.inl rfl) | exact Or.inr (Or.inr rfl)) (hd:(x==("__debug__":Str))=false:=by decide)
  (hcd:(x==("__classdict__":Str))=false:=by decide):PE X (.Name x pos) (tVar i):=pe_var hN hv hd hcd
end
theorem qj {A B:Prop} (h:B):if false=true then A else B:=by
 rw [if_neg Bool.false_ne_true]
 exact h
theorem wd {A B:Prop} (h:A):if true=true then A else B:=by
 rw [if_pos rfl]
 exact h
theorem b8 {c A B:Prop} [Decidable c] (h1:c→A) (h2:¬c→B):if c then A else B:=by
 by_cases h:c
 ·rw [if_pos h]
  exact h1 h
 ·rw [if_neg h]
  exact h2 h
def ao (H H':Hp):Prop:=∀b o,H b=some o→H' b=some o
theorem ao.refl (H:Hp):ao H H:=fun _ _ h=>h
theorem ao.trans {H H1 H2:Hp} (a:ao H H1) (b:ao H1 H2):ao H H2:=fun c o h=>b c o (a c o h)
theorem ao.free {H H':Hp} (e:ao H H') {l:Addr} (h:H' l=Option.none):H l=Option.none:=by
 cases q:H l with
 | none=>rfl
 | some o=>
  rw [e l o q] at h
  cases h
theorem ao.seq {K:PySem.W.Frag} {H H':Hp} {a:Addr} {xs:List V} (e:ao H H') (h:SqL K H a xs):SqL K H' a xs:=by
 rcases h with (h | ⟨o,h⟩) | h
 ·exact .inl (.inl (e _ _ h))
 ·exact .inl (.inr ⟨o,e _ _ h⟩)
 ·exact .inr h
end L2
namespace L2
open PySem PySem.Spec PyProof.Rows
section
variable {κ:Type} [DecidableEq κ]
noncomputable def cz (kvs:List (κ×V)) (k:κ):Option V:=(kvs.find? fun kv=>decide (kv.1=k)).map (·.2)
noncomputable def putK (kvs:List (κ×V)) (k:κ) (v:V):List (κ×V):=
 if (kvs.any fun kv=>decide (kv.1=k))=true then kvs.map (fun kv=>if kv.1=k then (kv.1,v) else kv) else kvs++[(k,v)]
theorem b0 {p:κ×V} {r:List (κ×V)} {k:κ} (e:p.1=k):cz (p::r) k=some p.2:=by simp [cz,List.find?_cons,e]
theorem bz {p:κ×V} {r:List (κ×V)} {k:κ} (e:¬p.1=k):cz (p::r) k=cz r k:=by simp [cz,List.find?_cons,e]
theorem dy (k:κ):∀kvs:List (κ×V),(kvs.any fun kv=>decide (kv.1=k))=(cz kvs k).isSome
 | []=>rfl
 | p::r=>by
  rw [List.any_cons]
  by_cases e:p.1=k
  ·simp only [b0 e,decide_eq_true e,Bool.true_or,Option.isSome_some]
  ·rw [bz e,decide_eq_false e,Bool.false_or];exact dy k r
theorem Aj (k j:κ) (y:V):∀kvs:List (κ×V),cz (kvs.map fun kv=>if kv.1=k then (kv.1,y) else kv) j=(cz kvs j).map fun x=>if j=k then y else x
 | []=>rfl
 | p::r=>by
  have ih:=Aj k j y r
  rw [List.map_cons]
  by_cases h:p.1=k
  ·rw [if_pos h]
   by_cases e:p.1=j
   ·rw [b0 (p:=(p.1,y)) e,b0 e,Option.map_some,if_pos (e.symm.trans h)]
   ·rw [bz (p:=(p.1,y)) e,bz e,ih]
  ·rw [if_neg h]
   by_cases e:p.1=j
   ·rw [b0 (p:=p) e,b0 e,Option.map_some,if_neg (fun z=>h (e.trans z))]
   ·rw [bz (p:=p) e,bz e,ih]
theorem xc (k j:κ) (y:V):∀kvs:List (κ×V),cz kvs k=none→cz (kvs++[(k,y)]) j=if j=k then some y else cz kvs j
 | [],_=>by
  by_cases e:k=j
  ·rw [if_pos e.symm];exact b0 (p:=(k,y)) e
  ·rw [if_neg (fun z=>e z.symm)];exact bz (p:=(k,y)) e
 | p::r,hn=>by
  rw [List.cons_append]
  have hk:¬p.1=k:=fun z=>by rw [b0 z] at hn;cases hn
  rw [bz hk] at hn
  have ih:=xc k j y r hn
  by_cases e:p.1=j
  ·rw [b0 e,b0 e,if_neg (fun z=>hk (e.trans z))]
  ·rw [bz e,bz e,ih]
theorem Aq (kvs:List (κ×V)) (k j:κ) (y:V):cz (putK kvs k y) j=if j=k then some y else cz kvs j:=by
 unfold putK
 by_cases a:(kvs.any fun kv=>decide (kv.1=k))=true
 ·rw [if_pos a,Aj]
  rw [dy] at a
  by_cases e:j=k
  ·obtain ⟨x,hx⟩:=Option.isSome_iff_exists.mp a
   rw [if_pos e,e,hx,Option.map_some,if_pos rfl]
  ·rw [if_neg e]
   cases cz kvs j with
   | none=>rfl
   | some x=>rw [Option.map_some,if_neg e]
 ·rw [if_neg a]
  refine xc k j y kvs ?_
  rw [dy] at a
  cases q:cz kvs k with
  | none=>rfl
  | some x=>rw [q] at a;exact (a rfl).elim
theorem fo (kvs:List (κ×V)) (k:κ) (v:V):(putK kvs k v).length≤kvs.length+1:=by
 unfold putK
 split
 ·rw [List.length_map];omega
 ·rw [List.length_append,List.length_cons,List.length_nil];omega
theorem Ba {kvs:List (κ×V)} {k:κ} (v:V) (h:cz kvs k=none):putK kvs k v=kvs++[(k,v)]:=by
 unfold putK
 rw [dy,h]
 exact if_neg (by decide)
theorem mf.ip {o:Option V} {u:Option Value} (r:mf o u):o.isSome=u.isSome:=by
 cases o with
 | none=>cases u with
  | none=>rfl
  | some _=>exact (show False from r).elim
 | some _=>cases u with
  | none=>exact (show False from r).elim
  | some _=>rfl
theorem mf.getD {o:Option V} {u:Option Value} {d:V} {d':Value} (r:mf o u) (rd:RelV d d'):RelV (o.getD d) (u.getD d'):=by
 cases o with
 | none=>cases u with
  | none=>exact rd
  | some _=>exact (show False from r).elim
 | some _=>cases u with
  | none=>exact (show False from r).elim
  | some _=>exact r
theorem KV.val {kvs:List (κ×V)} {vs:List (κ×Value)} (r:KV kvs vs) (k:κ):mf (cz kvs k) (valueAt vs k):=by
 unfold KV at r
 induction r with
 | nil=>exact True.intro
 | @cons p q ps qs h t ih=>
  obtain ⟨h1,h2⟩:=h
  by_cases e:p.1=k
  ·have e':q.1=k:=h1.symm.trans e
   have b:valueAt (q::qs) k=some q.2:=by simp [valueAt,List.find?_cons,e']
   rw [b0 e,b];exact h2
  ·have e':¬q.1=k:=fun z=>e (h1.trans z)
   have b:valueAt (q::qs) k=valueAt qs k:=by simp [valueAt,List.find?_cons,e']
   rw [bz e,b];exact ih
theorem KV.any {kvs:List (κ×V)} {vs:List (κ×Value)} (r:KV kvs vs) (k:κ):(kvs.any fun kv=>decide (kv.1=k))=vs.any fun kv=>decide (kv.1=k):=by
 unfold KV at r
 induction r with
 | nil=>rfl
 | cons h t ih=>rw [List.any_cons,List.any_cons,ih,h.1]
theorem KV.repl {kvs:List (κ×V)} {vs:List (κ×Value)} (r:KV kvs vs) (k:κ) {y:V} {u:Value} (ry:RelV y u):
  KV (kvs.map fun kv=>if kv.1=k then (kv.1,y) else kv) (vs.map fun kv=>if kv.1=k then (kv.1,u) else kv):=by
 unfold KV at r ⊢
 induction r with
 | nil=>exact .nil
 | @cons p q ps qs h t ih=>
  rw [List.map_cons,List.map_cons]
  refine .cons ?_ ih
  obtain ⟨h1,h2⟩:=h
  by_cases e:p.1=k
  ·rw [if_pos e,if_pos (h1.symm.trans e)];exact ⟨h1,ry⟩
  ·rw [if_neg e,if_neg (fun z=>e (h1.trans z))];exact ⟨h1,h2⟩
theorem KV.put {kvs:List (κ×V)} {vs:List (κ×Value)} (r:KV kvs vs) (k:κ) {y:V} {u:Value} (ry:RelV y u):KV (putK kvs k y) (stored vs k u):=by
 unfold putK stored
 rw [r.any k]
 by_cases e:(vs.any fun kv=>decide (kv.1=k))=true
 ·rw [if_pos e,if_pos e];exact r.repl k ry
 ·rw [if_neg e,if_neg e];exact Paired.snoc r ⟨rfl,ry⟩
theorem KV.length {kvs:List (κ×V)} {vs:List (κ×Value)} (r:KV kvs vs):kvs.length=vs.length:=Paired.length r
end
theorem qd {P:Program} {w:World} {k:Key} {u:Value} (r:RelV (kV k) u):(bh P w).is k u=true:=by
 cases k with
 | inl i=>obtain ⟨t,e⟩:=(show ∃t,u=Value.int i t from r);subst e;exact Bc P w i t
 | inr x=>obtain ⟨t,e⟩:=(show ∃t,u=Value.str x t from r);subst e;exact jz P w x t
theorem wz {P:Program} {w:World}:∀{ks:List Key} {us:List Value},Vals (ks.map kV) us→ItemsAre (bh P w) ks us
 | [],_,r=>by rw [List.map_nil] at r;cases r;exact .nil
 | k::ks,_,r=>by
  rw [List.map_cons] at r
  cases r with
  | cons h t=>exact .cons (qd h) (wz t)
abbrev KT (H:Hp):List (List Key×V)→List (List Key×Addr×Value)→Prop:=Paired fun p q=>p.1=q.1∧H q.2.1=some (.tup (p.1.map kV))∧RelV p.2 q.2.2
theorem KT.val {H:Hp} {kvs:List (List Key×V)} {xs:List (List Key×Addr×Value)} (r:KT H kvs xs) (k:List Key):mf (cz kvs k) ((atKey xs k).map (·.2)):=by
 induction r with
 | nil=>exact True.intro
 | @cons p q ps qs h t ih=>
  obtain ⟨h1,_,h2⟩:=h
  by_cases e:p.1=k
  ·have e':q.1=k:=h1.symm.trans e
   have b:atKey (q::qs) k=some q.2:=by simp [atKey,List.find?_cons,e']
   rw [b0 e,b];exact h2
  ·have e':¬q.1=k:=fun z=>e (h1.trans z)
   have b:atKey (q::qs) k=atKey qs k:=by simp [atKey,List.find?_cons,e']
   rw [bz e,b];exact ih
theorem KT.repl {H:Hp} {kvs:List (List Key×V)} {xs:List (List Key×Addr×Value)} (r:KT H kvs xs) (k:List Key) {y:V} {u:Value} (ry:RelV y u):
  KT H (kvs.map fun kv=>if kv.1=k then (kv.1,y) else kv) (xs.map (putAt k u)):=by
 induction r with
 | nil=>exact .nil
 | @cons p q ps qs h t ih=>
  rw [List.map_cons,List.map_cons]
  refine .cons ?_ ih
  obtain ⟨h1,h2,h3⟩:=h
  unfold putAt
  by_cases e:p.1=k
  ·rw [if_pos e,if_pos (h1.symm.trans e)];exact ⟨h1,h2,ry⟩
  ·rw [if_neg e,if_neg (fun z=>e (h1.trans z))];exact ⟨h1,h2,h3⟩
theorem KT.put {H:Hp} {kvs:List (List Key×V)} {xs:List (List Key×Addr×Value)} (r:KT H kvs xs) (k:List Key) {b:Addr} {y:V} {u:Value} (hb:H b=some (.tup (k.map kV))) (ry:RelV y u):
  KT H (putK kvs k y) (storedH xs k b u):=by
 have e:(kvs.any fun kv=>decide (kv.1=k))=(atKey xs k).isSome:=by
  rw [dy,(r.val k).ip,Option.isSome_map]
 unfold putK storedH
 rw [e]
 by_cases q:(atKey xs k).isSome=true
 ·rw [if_pos q,if_pos q];exact r.repl k ry
 ·rw [if_neg q,if_neg q];exact Paired.snoc r ⟨rfl,hb,ry⟩
theorem KT.keeps {H H':Hp} {kvs:List (List Key×V)} {xs:List (List Key×Addr×Value)} (r:KT H kvs xs) (ht:∀b ys,H b=some (.tup ys)→H' b=some (.tup ys)):KT H' kvs xs:=
 Paired.mapP r fun _ _ z=>⟨z.1,ht _ _ z.2.1,z.2.2⟩
section
variable {P:Program} {w:World} {H:Hp} {h:Heap} {a:Addr}
theorem rd_of {u:HO} (ok:HOk P w H h) (e:Rd H a u):bp P w H h a u:=e.ok ok
theorem xw {kvs:List (Key×V)} (ok:HOk P w H h) (e:Rd H a (.dK kvs)):kvs.length≤sizeLine∧(a==sysModules)=false∧∃vs,KV kvs vs∧h.DictOf (bh P w) a vs:=
 show bp P w H h a (.dK kvs) from rd_of ok e
theorem dk_of {kvs:List (Key×V)} (ok:HOk P w H h) (e:H a=some (.dK kvs)):kvs.length≤sizeLine∧(a==sysModules)=false∧∃vs,KV kvs vs∧h.DictOf (bh P w) a vs:=xw ok (.inl e)
theorem kz {ks:List Key} (ok:HOk P w H h) (e:H a=some (.tup (ks.map kV))):(tupleKind (bh P w)).is h ks a:=by
 obtain ⟨_,its,r,o,h1,h2,n,h3,_⟩:=(show bp P w H h a (.tup (ks.map kV)) from ok a _ e)
 exact ⟨o,its.toArray,n,h1,h2,h3,by simpa using wz r⟩
theorem xf {kvs:List (List Key×V)} (ok:HOk P w H h) (e:Rd H a (.dT kvs)):kvs.length≤sizeLine∧(a==sysModules)=false∧
  ∃xs,KT H kvs xs∧h.DictOfH (tupleKind (bh P w)) a xs:=by
 obtain ⟨z,y,xs,r,o,es,ep,h1,h2,h3,h4,h5⟩:=(show bp P w H h a (.dT kvs) from rd_of ok e)
 refine ⟨z,y,xs,r,o,es,ep,h1,h2,h3,h4,fun x hx=>?_,h5⟩
 have all:∀{l:List (List Key×V)} {m:List (List Key×Addr×Value)},KT H l m→∀x∈m,(tupleKind (bh P w)).is h x.1 x.2.1:=by
  intro l m q
  induction q with
  | nil=>intro x hx;exact nomatch hx
  | @cons p q ps qs hq t ih=>
   intro x hx
   rcases List.mem_cons.mp hx with e | hx
   ·subst e
    exact kz ok (by rw [←hq.1];exact hq.2.1)
   ·exact ih x hx
 exact all r x hx
theorem Ja {kvs:List (List Key×V)} (ok:HOk P w H h) (e:H a=some (.dT kvs)):kvs.length≤sizeLine∧(a==sysModules)=false∧
  ∃xs,KT H kvs xs∧h.DictOfH (tupleKind (bh P w)) a xs:=xf ok (.inl e)
end
def jm (H:Hp) (a:Addr) (y:V) (r:Option V):Prop:=
 (∃kvs k,Rd H a (.dK kvs)∧y=kV k∧r=cz kvs k)∨∃kvs k b,Rd H a (.dT kvs)∧y=.ref b∧H b=some (.tup (k.map kV))∧r=cz kvs k
def vc (H:Hp) (a:Addr) (y v:V) (H':Hp):Prop:=
 (∃kvs k,H a=some (.dK kvs)∧y=kV k∧kvs.length < sizeLine∧H'=upd H a (.dK (putK kvs k v)))∨
 ∃kvs k b,H a=some (.dT kvs)∧y=.ref b∧H b=some (.tup (k.map kV))∧kvs.length < sizeLine∧H'=upd H a (.dT (putK kvs k v))
theorem jm.t {H:Hp} {a b:Addr} {kvs:List (List Key×V)} {k:List Key} (e:H a=some (.dT kvs)) (eb:H b=some (.tup (k.map kV))):jm H a (.ref b) (cz kvs k):=.inr ⟨kvs,k,b,.inl e,rfl,eb,rfl⟩
theorem vc.t {H:Hp} {a b:Addr} {kvs:List (List Key×V)} {k:List Key} {v:V} (e:H a=some (.dT kvs)) (eb:H b=some (.tup (k.map kV))) (hl:kvs.length < sizeLine):
  vc H a (.ref b) v (upd H a (.dT (putK kvs k v))):=.inr ⟨kvs,k,b,e,rfl,eb,hl,rfl⟩
section
variable {X:Cx} {pins:List (Addr×Obj)} {σ:St} {H:Hp} {s:Shared} {a:Addr} {y v:V} {u r:Value} {o:Option V} {A:Around} {E:Value→Shared→Prop}
theorem Inv.big (I:Inv X pins σ H s):sysModules < s.heap.objs.size:=by
 have h:mainGlobals < s.heap.objs.size:=(I.mod.glob.keeps I.bk).lt
 exact Nat.lt_trans (by decide) h
theorem Ha {Q:Value→Shared→Prop} (hu:A.units+1 < cLine) (I:Inv X pins σ H s) (g:jm H a y (some v)) (ry:RelV y u) (h:∀w' s',Inv X pins σ H s'→RelV v w'→Q w' s'):
  wpAny (model X.prog X.w) A (getItem (.ref a) u) Q E s:=by
 rcases g with ⟨kvs,k,e,ey,l⟩ | ⟨kvs,k,b,e,ey,eb,l⟩
 ·subst ey
  obtain ⟨z,hd,vs,rel,dd⟩:=xw I.hok e
  obtain ⟨w',hw,rw'⟩:=mf.some_of (v:=v) (o:=valueAt vs k) (by rw [l];exact rel.val k)
  exact wpAny_getItem_of (qd ry) dd.mapOf hw (h w' _ (I.tok _) rw')
 ·subst ey
  cases (show u=Value.ref b from ry)
  obtain ⟨z,hd,xs,rel,dd⟩:=xf I.hok e
  obtain ⟨w',hw,rw'⟩:=mf.some_of (v:=v) (o:=(atKey xs k).map (·.2)) (by rw [l];exact rel.val k)
  obtain ⟨p,hp,hp2⟩:=Option.map_eq_some_iff.mp hw
  refine wpAny_getItem_heap (tupleKind_room_in1 hu) (kz I.hok eb) dd hp ?_
  rw [hp2]
  exact h w' _ (I.tok _) rw'
theorem d_in {Q:Value→Shared→Prop} (hu:A.units+1 < cLine) (I:Inv X pins σ H s) (g:jm H a y o) (ry:RelV y u) (h:∀s',Inv X pins σ H s'→Q (.bool o.isSome) s'):
  wpAny (model X.prog X.w) A (compareOp .In u (.ref a)) Q E s:=by
 rcases g with ⟨kvs,k,e,ey,l⟩ | ⟨kvs,k,b,e,ey,eb,l⟩
 ·subst ey
  obtain ⟨z,hd,vs,rel,dd⟩:=xw I.hok e
  refine wpAny_in_of (qd ry) hd dd.mapOf ?_
  rw [←(rel.val k).ip,←l]
  exact h _ (I.tok _)
 ·subst ey
  cases (show u=Value.ref b from ry)
  obtain ⟨z,hd,xs,rel,dd⟩:=xf I.hok e
  refine wpAny_in_heap (tupleKind_room_in1 hu) (kz I.hok eb) hd dd ?_
  have q:=(rel.val k).ip
  rw [Option.isSome_map] at q
  rw [←q,←l]
  exact h _ (I.tok _)
theorem L9 {Q:Value→Shared→Prop} (hu:A.units+1 < cLine) (I:Inv X pins σ H s) (g:jm H a y o) (ry:RelV y u) (h:∀s',Inv X pins σ H s'→Q (.bool (!o.isSome)) s'):
  wpAny (model X.prog X.w) A (compareOp .NotIn u (.ref a)) Q E s:=by
 rcases g with ⟨kvs,k,e,ey,l⟩ | ⟨kvs,k,b,e,ey,eb,l⟩
 ·subst ey
  obtain ⟨z,hd,vs,rel,dd⟩:=xw I.hok e
  refine wpAny_notIn_of (qd ry) hd dd.mapOf ?_
  rw [←(rel.val k).ip,←l]
  exact h _ (I.tok _)
 ·subst ey
  cases (show u=Value.ref b from ry)
  obtain ⟨z,hd,xs,rel,dd⟩:=xf I.hok e
  refine wpAny_notIn_heap (tupleKind_room_in1 hu) (kz I.hok eb) hd dd ?_
  have q:=(rel.val k).ip
  rw [Option.isSome_map] at q
  rw [←q,←l]
  exact h _ (I.tok _)
theorem yv {h':Heap} {t':Nat} {ob:HO} (I:Inv X pins σ H s) (mu:Mut (H a)) (hs:Heap.SameBut a s.heap h') (he:∃q,h'.get? a=some q) (new:bp X.prog X.w (upd H a ob) h' a ob):
  Inv X pins σ (upd H a ob) { s with heap:=h',toks:=t' }:=
 I.write (x:=a) (e:=a) mu (.inl rfl) (fun b q hb z=>(hs.2 b hb).trans z) he new
theorem Il {P:Program} {w:World} {H':Hp} {h':Heap} {kvs:List (Key×V)} {vs:List (Key×Value)} (z:kvs.length≤sizeLine) (hd:(a==sysModules)=false) (rel:KV kvs vs) (dd:h'.DictOf (bh P w) a vs):
  bp P w H' h' a (.dK kvs):=⟨z,hd,vs,rel,dd⟩
theorem Hm {H':Hp} {Q:Unit→Shared→Prop} (hu:A.units+1 < cLine) (I:Inv X pins σ H s) (g:vc H a y v H') (ry:RelV y u) (rv:RelV v r) (h:∀s',Inv X pins σ H' s'→Q () s'):
  wpAny (model X.prog X.w) A (setItem (.ref a) u r) Q E s:=by
 rcases g with ⟨kvs,k,e,ey,l,eH⟩ | ⟨kvs,k,b,e,ey,eb,l,eH⟩
 ·subst ey eH
  obtain ⟨z,hd,vs,rel,dd⟩:=dk_of I.hok e
  have hz:vs.length≤sizeLine:=by rw [←rel.length];exact z
  have hl:(putK kvs k v).length≤sizeLine:=by have:=fo kvs k v;omega
  refine wpAny_setItem_pairs (hsz:=hz) (qd ry) dd fun h' dd' hs=>h _ ?_
  have he:∃q,h'.get? a=some q:=let ⟨q,_,_,hq,_⟩:=dd';⟨q,hq⟩
  exact yv I (by rw [e];exact True.intro) hs he (Il hl hd (rel.put k rv) dd')
 ·subst ey eH
  cases (show u=Value.ref b from ry)
  obtain ⟨z,hd,xs,rel,dd⟩:=Ja I.hok e
  have hz:xs.length≤sizeLine:=by rw [←Paired.length rel];exact z
  have hl:(putK kvs k v).length≤sizeLine:=by have:=fo kvs k v;omega
  refine wpAny_setItem_heap (hsz:=hz) (tupleKind_room_in1 hu) (kz I.hok eb) dd fun h' dd' hs=>h _ ?_
  obtain ⟨q,es,ep,hq,h2,h3,h4,_,h5⟩:=dd'
  refine yv I (by rw [e];exact True.intro) hs ⟨q,hq⟩ ⟨hl,hd,_,(rel.put k eb rv).keeps fun c ys ec=>?_,q,es,ep,hq,h2,h3,h4,h5⟩
  rw [af (ee ec e (fun z=>nomatch z))]
  exact ec
end
section
variable {X:Cx} {pins:List (Addr×Obj)} {σ:St} {H:Hp} {s:Shared} {a:Addr} {kvs:List (Key×V)} {k:Key} {u:Value} {A:Around} {E:Value→Shared→Prop}
end
def NoSl (i:Expr):Prop:=∀ov iv,subscripted i false ov iv=operate [ov,iv] (getItem ov iv)
theorem O3 {prog:Program} {w:World} {A:Around} {E:Value→Shared→Prop} {s:Shared} {env:Env} {value slice:Expr} {pos:Pos} {T id:String} {Q:Value→Shared→Prop}
  (hl:typeLookup (.type T) "__getitem__"=pure (some (.builtin id))) (hs:NoSl slice)
  (h:wpAny (model prog w) A (eval value env) (fun o s₁=>wpAny (model prog w) A (eval slice env) (fun i s₂=>s₂.TypeIs o T∧wpAny (model prog w) A (getItem o i) Q E s₂) E s₁) E s):
  wpAny (model prog w) A (eval (.Subscript value slice pos) env) Q E s:=by
 refine Subscript_ (wpAny_mono h (fun o s₁ h₁=>wpAny_mono h₁ (fun i s₂ h₂=>?_) fun _ _ x=>x) fun _ _ x=>x)
 obtain ⟨hT,h₂⟩:=h₂
 unfold subscriptTail
 refine wpAny_bind ?_
 rw [getitemInPython_of_ne hT.not_modules]
 refine wpAny_bind (wpAny_specialOf hT hl ?_)
 have fin:wpAny (model prog w) A (subscripted slice false o i) (fun r s₃=>wpAny (model prog w) A (letTemporaryGo value o r >>=fun _=>pure r) Q E s₃) E s₂:=by
  rw [hs o i]
  exact wpAny_operating (wpAny_mono h₂ (fun r s₃ h₃=>wpAny_bind (wpAny_letTemporaryGo (wpAny_pure h₃))) fun _ _ x=>x)
 first
  | exact wpAny_pure (wpAny_bind fin)
  | exact wpAny_bind (wpAny_pure (wpAny_bind fin))
  | exact wpAny_bind fin
theorem Aw {X:Cx} {pins:List (Addr×Obj)} {σ:St} {H:Hp} {s:Shared} {a:Addr} {y:V} {o:Option V} (I:Inv X pins σ H s) (g:jm H a y o):s.TypeIs (.ref a) "dict":=by
 rcases g with ⟨kvs,k,e,_,_⟩ | ⟨kvs,k,b,e,_,_,_⟩
 ·obtain ⟨_,_,vs,_,dd⟩:=xw I.hok e
  exact dd.typeIs
 ·obtain ⟨_,_,xs,_,dd⟩:=xf I.hok e
  exact dd.typeIs
def tDGet (td ty:TE):TE:=fun σ H Q=>td σ H fun x H1=>ty σ H1 fun y H2=>∃a v,x=.ref a∧jm H2 a y (some v)∧Q v H2
def tDIn (ty td:TE):TE:=fun σ H Q=>ty σ H fun y H1=>td σ H1 fun x H2=>∃a o,x=.ref a∧jm H2 a y o∧Q (.bl o.isSome) H2
def Fh (ty td:TE):TE:=fun σ H Q=>ty σ H fun y H1=>td σ H1 fun x H2=>∃a o,x=.ref a∧jm H2 a y o∧Q (.bl (!o.isSome)) H2
def sDPut (td ty tv:TE):TS:=fun D σ H=>tv σ H fun v H1=>td σ H1 fun x H2=>ty σ H2 fun y H3=>∃a H4,x=.ref a∧vc H3 a y v H4∧D.nx σ H4
section
variable {X:Cx} {o i e value:Expr} {pos pos' tpos:Pos} {td ty tv:TE}
theorem Ml (hu:X.A.units+1 < cLine) (ho:PE X o td) (hi:PE X i ty) (hs:NoSl i):PE X (.Subscript o i pos) (tDGet td ty):=by
 intro pins s σ H Q I h
 refine O3 PySem.F.slot_dict_getitem.lookup hs (thn (ho pins s σ H _ I h) fun u s1 ⟨x,H1,I1,rx,q1⟩=>thn (hi pins s1 σ H1 _ I1 q1) fun iv s2 ⟨y,H2,I2,ry,a,v,ex,g,q2⟩=>?_)
 subst ex
 obtain rfl:u=Value.ref a:=rx
 exact ⟨Aw I2 g,Ha hu I2 g ry fun w' s3 I3 rw'=>⟨v,H2,I3,rw',q2⟩⟩
theorem pc_din (hu:X.A.units+1 < cLine) (hi:PE X i ty) (ho:PE X o td):PC X .In i o (tDIn ty td):=by
 intro pins s σ H Q I h
 refine thn (hi pins s σ H _ I h) fun iv s1 ⟨y,H1,I1,ry,q1⟩=>thn (ho pins s1 σ H1 _ I1 q1) fun u s2 ⟨x,H2,I2,rx,a,ov,ex,g,q2⟩=>?_
 subst ex
 obtain rfl:u=Value.ref a:=rx
 exact d_in hu I2 g ry fun s3 I3=>⟨.bl ov.isSome,H2,I3,rfl,q2⟩
theorem Gx (hu:X.A.units+1 < cLine) (hi:PE X i ty) (ho:PE X o td):PC X .NotIn i o (Fh ty td):=by
 intro pins s σ H Q I h
 refine thn (hi pins s σ H _ I h) fun iv s1 ⟨y,H1,I1,ry,q1⟩=>thn (ho pins s1 σ H1 _ I1 q1) fun u s2 ⟨x,H2,I2,rx,a,ov,ex,g,q2⟩=>?_
 subst ex
 obtain rfl:u=Value.ref a:=rx
 exact L9 hu I2 g ry fun s3 I3=>⟨.bl (!ov.isSome),H2,I3,rfl,q2⟩
theorem Dx (hu:X.A.units+1 < cLine) (ho:PE X o td) (hi:PE X i ty) (hv:PE X value tv) (hs:swapsWith value (some (.Subscript o i pos')) pos.line X.env=pure false):
  PS X (.Assign [.Subscript o i pos'] value pos) (sDPut td ty tv):=by
 intro pins s σ H D I h
 refine wpAny_Assign_Subscript (thn (hv pins s σ H _ I h) fun r s1 ⟨v,H1,I1,rv,q1⟩=>thn (ho pins s1 σ H1 _ I1 q1) fun u s2 ⟨x,H2,I2,rx,q2⟩=>thn (hi pins s2 σ H2 _ I2 q2) fun iv s3 ⟨y,H3,I3,ry,a,H4,ex,g,q3⟩=>?_) hs
 subst ex
 obtain rfl:u=Value.ref a:=rx
 exact Hm hu I3 g ry rv fun s4 I4=>⟨σ,H4,I4,q3⟩
end
theorem Kk {P:Program} {w:World} {H:Hp} (h:Heap) (hb:sysModules < h.objs.size):bp P w H (h.push { cls:=.type "dict",data:=.dict #[] }) h.objs.size (.dK []):=
 ⟨Nat.zero_le _,beq_eq_false_iff_ne.mpr (Ne.symm (Nat.ne_of_lt hb)),[],.nil,Heap.DictOf.new h⟩
theorem Ia {P:Program} {w:World} {H:Hp} (h:Heap) (hb:sysModules < h.objs.size):bp P w H (h.push { cls:=.type "dict",data:=.dict #[] }) h.objs.size (.dT []):=
 ⟨Nat.zero_le _,beq_eq_false_iff_ne.mpr (Ne.symm (Nat.ne_of_lt hb)),[],.nil,_,#[],0,Heap.get?_push_size _ rfl,⟨rfl,rfl,rfl⟩,rfl,rfl,List.nodup_nil⟩
def tDNewK:TE:=fun _ H Q=>∀p,H p=none→Q (.ref p) (upd H p (.dK []))
def Ji:TE:=fun _ H Q=>∀p,H p=none→Q (.ref p) (upd H p (.dT []))
section
variable {X:Cx} {pos:Pos}
theorem Bj:PE X (.Dict [] [] pos) Ji:=fun pins s σ H Q I h=>
 wpAny_Dict_empty ⟨.ref s.heap.objs.size,_,I.laid (a:=s.heap.objs.size) (o:=.dT []) (t':=s.toks) (fun _ _ q=>Heap.get?_push_of_some _ q) (Nat.le_refl _) (Ia s.heap I.big),rfl,h _ (I.hok.fresh (Nat.le_refl _))⟩
end
def yy:List (TE×TE)→St→Hp→(List (V×V)→Hp→Prop)→Prop
 | [],_,H,Q=>Q [] H
 | (tk,tv)::r,σ,H,Q=>tk σ H fun x H1=>tv σ H1 fun y H2=>yy r σ H2 fun ps H3=>Q ((x,y)::ps) H3
abbrev VV:List (V×V)→List (Value×Value)→Prop:=Paired fun p q=>RelV p.1 q.1∧RelV p.2 q.2
def PPs (X:Cx) (pos:Pos) (keys:List (Option Expr)) (values:List Expr) (trs:List (TE×TE)):Prop:=
 ∀(pins:List (Addr×Obj)) (s:Shared) (σ:St) (H:Hp) (Q:List (V×V)→Hp→Prop),Inv X pins σ H s→yy trs σ H Q→
  wpAny (model X.prog X.w) X.A (evalPairs (pairTrees keys values X.env pos)) (fun vs s'=>∃ps H',Inv X pins σ H' s'∧VV ps vs∧Q ps H') X.xe s
theorem Nw {X:Cx} {pos:Pos}:PPs X pos [] [] []:=fun pins s σ H Q I h=>pairTrees_nil_walk ⟨[],H,I,.nil,h⟩
theorem Kw {X:Cx} {pos:Pos} {k v:Expr} {ks:List (Option Expr)} {vs:List Expr} {tk tv:TE} {trs:List (TE×TE)} (hk:PE X k tk) (hv:PE X v tv) (hr:PPs X pos ks vs trs):
  PPs X pos (some k::ks) (v::vs) ((tk,tv)::trs):=fun pins s σ H Q I h=>
 pairTrees_cons_walk (thn (hk pins s σ H _ I h) fun u s1 ⟨x,H1,I1,rx,q1⟩=>thn (hv pins s1 σ H1 _ I1 q1) fun w2 s2 ⟨y,H2,I2,ry,q2⟩=>
  thn (hr pins s2 σ H2 _ I2 q2) fun ws s3 ⟨ps,H3,I3,rel,q3⟩=>⟨(x,y)::ps,H3,I3,.cons ⟨rx,ry⟩ rel,q3⟩)
noncomputable def pj (kvs more:List (Key×V)):List (Key×V):=more.foldl (fun acc kv=>putK acc kv.1 kv.2) kvs
theorem KV.merge:∀{more:List (Key×V)} {rs:List (Key×Value)} {kvs:List (Key×V)} {vs:List (Key×Value)},KV more rs→KV kvs vs→KV (pj kvs more) (merged vs rs):=by
 intro more rs kvs vs r
 unfold KV at r
 induction r generalizing kvs vs with
 | nil=>intro q;exact q
 | @cons p q ps qs h t ih=>
  intro r0
  have e:KV (putK kvs p.1 p.2) (stored vs q.1 q.2):=by
   have:=r0.put p.1 h.2
   rw [←h.1];exact this
  exact ih e
theorem kq:∀(more kvs:List (Key×V)),(pj kvs more).length≤kvs.length+more.length
 | [],kvs=>by show kvs.length≤kvs.length+0;omega
 | p::r,kvs=>by
  have h1:=kq r (putK kvs p.1 p.2)
  have h2:=fo kvs p.1 p.2
  show (pj (putK kvs p.1 p.2) r).length≤_
  rw [List.length_cons];omega
theorem vn {P:Program} {w:World}:∀{kvs:List (Key×V)} {ws:List (Value×Value)},VV (kvs.map fun kv=>(kV kv.1,kv.2)) ws→∃rs,Carries (bh P w) ws rs∧KV kvs rs
 | [],_,r=>by rw [List.map_nil] at r;cases r;exact ⟨[],True.intro,.nil⟩
 | p::kvs,_,r=>by
  rw [List.map_cons] at r
  cases r with
  | @cons a b as bs h t=>
   obtain ⟨rs,c,q⟩:=vn (P:=P) (w:=w) t
   obtain ⟨b1,b2⟩:=b
   exact ⟨(p.1,b2)::rs,⟨qd h.1,rfl,c⟩,.cons ⟨rfl,h.2⟩ q⟩
def tDisp (trs:List (TE×TE)):TE:=fun σ H Q=>∀p,H p=none→yy trs σ (upd H p (.dK [])) fun ps H2=>H2 p=some (.dK [])∧∃kvs:List (Key×V),ps=kvs.map (fun kv=>(kV kv.1,kv.2))∧kvs.length≤15∧Q (.ref p) (upd H2 p (.dK (pj [] kvs)))
theorem Ni {X:Cx} {pos:Pos} {keys:List (Option Expr)} {values:List Expr} {trs:List (TE×TE)} (h:PPs X pos keys values trs) (hall:keys.all (·.isSome)=true) (hl:keys.length=values.length) (h0:keys≠[])
  (h15:keys.length≤15):PE X (.Dict keys values pos) (tDisp trs):=by
 intro pins s σ H Q I q
 have hn:=I.hok.fresh (Nat.le_refl s.heap.objs.size)
 have I1:=I.laid (a:=s.heap.objs.size) (o:=.dK []) (h':=s.heap.push { cls:=.type "dict",data:=.dict #[] }) (t':=s.toks) (fun _ _ q=>Heap.get?_push_of_some _ q) (Nat.le_refl _) (Kk s.heap I.big)
 refine wpAny_Dict_walk (knd:=bh X.prog X.w) hall hl h0 h15 (thn (h pins _ σ _ _ I1 (q _ hn)) fun ws s2 ⟨ps,H2,I2,rel,e,kvs,ep,lk,q2⟩=>?_)
 subst ep
 obtain ⟨rs,c,rk⟩:=vn (P:=X.prog) (w:=X.w) rel
 obtain ⟨z,hd,vs0,r0,dd⟩:=dk_of I2.hok e
 cases r0
 refine ⟨rs,c,dd,fun h' dd' hs=>⟨.ref s.heap.objs.size,_,?_,rfl,q2⟩⟩
 have hz:(pj [] kvs).length≤sizeLine:=by
  have h1:=kq kvs []
  rw [List.length_nil] at h1
  rw [sizeLine_eq];omega
 have he:∃q,h'.get? s.heap.objs.size=some q:=let ⟨q,_,_,hq,_⟩:=dd';⟨q,hq⟩
 exact yv I2 (by rw [e];exact True.intro) hs he (Il hz hd (rk.merge .nil) dd')
structure M2 (X:Cx) (o:Expr) (m:Str) (apos:Pos) (e f:Expr) (cpos:Pos):Prop where
 base:attributeBase o m X.env (eval o X.env)=eval o X.env
 few:((backTo cpos (starEach [e,f] X.env)).all (fun x=>!x.1)&&(backToKw cpos (keywordEach [] X.env)).all (fun x=>x.1.isSome)
  &&decide (([e,f]:List Expr).length+([]:List Keyword).length+(if ([]:List Keyword).isEmpty then 0 else 1) < 30))=true
 line:(apos.endLine==cpos.line)=true
 trees:backTo cpos (starEach [e,f] X.env)=[(false,eval e X.env),(false,eval f X.env)]
section
variable {X:Cx} {pins:List (Addr×Obj)} {σ:St} {H:Hp} {s:Shared} {a:Addr} {y d:V} {u r:Value} {o:Option V} {A:Around} {E:Value→Shared→Prop}
end
section
variable {X:Cx} {o e f:Expr} {apos cpos:Pos} {td ty tx:TE}
end
section
variable {X:Cx} {pins:List (Addr×Obj)} {σ:St} {H:Hp} {s:Shared} {a:Addr} {kvs:List (Key×V)} {A:Around} {E:Value→Shared→Prop}
end
section
variable {X:Cx} {pins:List (Addr×Obj)} {σ:St} {H:Hp} {s:Shared} {a:Addr} {y:V} {u:Value} {A:Around} {E:Value→Shared→Prop}
end
end L2
namespace L2
open PySem PySem.Spec PyProof.Rows
section
variable {X:Cx}
end
section
variable {κ:Type} [DecidableEq κ]
theorem Oy {kvs:List (κ×V)} {k:κ} {v:V} (h:cz kvs k=some v):k∈kvs.map (·.1):=by
 have q:(kvs.any fun kv=>decide (kv.1=k))=true:=by
  rw [dy,h]
  all_goals rfl
 obtain ⟨p,hp,e⟩:=List.any_eq_true.mp q
 exact List.mem_map.mpr ⟨p,hp,of_decide_eq_true e⟩
end
end L2
namespace L2
open PySem PySem.Spec PyProof.Rows
def tm (i:Nat):TE:=fun σ H Q=>match σ[i]? with | some (some v)=>Q v H | _=>False
theorem pvD {X:Cx} (i:Nat) {x:Str} {pos:Pos} (hN:X.N[i]?=some x) (hv:Vis X.env.scope x) (hd:(x==("__debug__":Str))=false) (hcd:(x==("__classdict__":Str))=false):PE X (.Name x pos) (tm i):=fun pins s σ H Q I h=>pv i hN hv hd hcd pins s σ H Q I (by
 unfold tm at h
 split at h
 ·exact ⟨_,‹_›,h⟩
 ·exact h.elim)
theorem pl {X:Cx} (i:Nat) {x:Str} {pos:Pos} (hN:X.N[i]?=some x) (hv:X.env.scope.names.lookup x=some .local) (hd:(x==("__debug__":Str)||x==("__classdict__":Str))=false):PE X (.Name x pos) (tm i):=pvD i hN (.inl hv) (Bool.or_eq_false_iff.mp hd).1 (Bool.or_eq_false_iff.mp hd).2
theorem pk {X:Cx} (i:Nat) {x:Str} {pos:Pos} (hN:X.N[i]?=some x) (hv:X.env.scope.names.lookup x=some .cell) (hd:(x==("__debug__":Str)||x==("__classdict__":Str))=false):PE X (.Name x pos) (tm i):=pvD i hN (.inr (.inl hv)) (Bool.or_eq_false_iff.mp hd).1 (Bool.or_eq_false_iff.mp hd).2
theorem ik {i:Nat} {σ:L2.St} {H:Hp} {Q:VK}:tm i σ H Q=∃v,σ[i]?=some (some v)∧Q v H:=by
 unfold tm
 refine propext ⟨fun h=>?_,fun ⟨v,e,h⟩=>?_⟩
 ·split at h
  ·exact ⟨_,‹_›,h⟩
  ·exact h.elim
 ·rw [e]
  exact h
theorem Gk {α:Type} {a:α} {x y:List α}:(a::x=a::y)=(x=y):=propext ⟨fun h=>(List.cons.inj h).2,fun h=>by rw [h]⟩
theorem Og {α:Type} {a b:α}:([a]=[b])=(a=b):=propext ⟨fun h=>(List.cons.inj h).1,fun h=>by rw [h]⟩
theorem Mn {α:Type} {a b c d:α}:([a,c]=[b,d])=(a=b∧c=d):=propext ⟨fun h=>⟨(List.cons.inj h).1,(List.cons.inj (List.cons.inj h).2).1⟩,fun ⟨h,k⟩=>by rw [h,k]⟩
theorem M9 {α:Type} {a b c d e f:α}:([a,c,e]=[b,d,f])=(a=b∧c=d∧e=f):=propext ⟨fun h=>⟨(List.cons.inj h).1,(List.cons.inj (List.cons.inj h).2).1,(List.cons.inj (List.cons.inj (List.cons.inj h).2).2).1⟩,fun ⟨h,k,l⟩=>by rw [h,k,l]⟩
theorem int_ex {a:Int} {p:Int→Prop}:(∃x,V.int a=V.int x∧p x)=p a:=propext ⟨fun ⟨x,e,h⟩=>by cases e;exact h,fun h=>⟨a,rfl,h⟩⟩
theorem ref_ex {a:Addr} {p:Addr→Prop}:(∃x,V.ref a=V.ref x∧p x)=p a:=propext ⟨fun ⟨x,e,h⟩=>by cases e;exact h,fun h=>⟨a,rfl,h⟩⟩
theorem bl_ex {a:Bool} {p:Bool→Prop}:(∃x,V.bl a=V.bl x∧p x)=p a:=propext ⟨fun ⟨x,e,h⟩=>by cases e;exact h,fun h=>⟨a,rfl,h⟩⟩
theorem Nx {a b:Int} {p:Int→Int→Prop}:(∃x y,V.int a=V.int x∧V.int b=V.int y∧p x y)=p a b:=propext ⟨fun ⟨x,y,e,e2,h⟩=>by cases e;cases e2;exact h,fun h=>⟨a,b,rfl,rfl,h⟩⟩
theorem ifY {c:Prop} [Decidable c] {A B:Prop} (hc:c) (h:A):if c then A else B:=by rw [if_pos hc];exact h
theorem ifN {c:Prop} [Decidable c] {A B:Prop} (hc:¬c) (h:B):if c then A else B:=by rw [if_neg hc];exact h
theorem us0 {α:Type} {P:List α→Prop} {us:List α} (hl:us.length=0) (h:P []):P us:=by
 rw [List.length_eq_zero_iff.mp hl]
 exact h
theorem usS {α:Type} {P:List α→Prop} {us:List α} {n:Nat} (hl:us.length=n+1) (h:∀a us,us.length=n→P (a::us)):P us:=by
 cases us with
 | nil=>exact absurd hl.symm (Nat.succ_ne_zero n)
 | cons a l=>exact h a l (Nat.succ.inj hl)
theorem us1 {α:Type} {P:List α→Prop} {us:List α} (hl:us.length=1) (h:∀a,P [a]):P us:=usS hl fun a us hl=>us0 (P:=fun us=>P (a::us)) hl (h a)
theorem us2 {α:Type} {P:List α→Prop} {us:List α} (hl:us.length=2) (h:∀a b,P [a,b]):P us:=usS hl fun a us hl=>us1 (P:=fun us=>P (a::us)) hl (h a)
theorem us3 {α:Type} {P:List α→Prop} {us:List α} (hl:us.length=3) (h:∀a b c,P [a,b,c]):P us:=usS hl fun a us hl=>us2 (P:=fun us=>P (a::us)) hl (h a)
theorem us4 {α:Type} {P:List α→Prop} {us:List α} (hl:us.length=4) (h:∀a b c d,P [a,b,c,d]):P us:=usS hl fun a us hl=>us3 (P:=fun us=>P (a::us)) hl (h a)
theorem us5 {α:Type} {P:List α→Prop} {us:List α} (hl:us.length=5) (h:∀a b c d e,P [a,b,c,d,e]):P us:=usS hl fun a us hl=>us4 (P:=fun us=>P (a::us)) hl (h a)
def Cy (g:Int→Int→V):R2:=fun x y H Q=>match x,y with | .int i,.int j=>Q (g i j) H | _,_=>False
def rID (C:Int→Int→Prop) (g:Int→Int→V):R2:=fun x y H Q=>match x,y with | .int i,.int j=>C i j∧Q (g i j) H | _,_=>False
def rUD (g:Int→V):V→Hp→VK→Prop:=fun x H Q=>match x with | .int i=>Q (g i) H | _=>False
def tBD (t:TE):TT:=fun σ H Q=>t σ H fun x H1=>match x with | .bl c=>Q c H1 | _=>False
def Cs (t:TE):TO:=fun σ H Q=>t σ H fun x H1=>match x with | .int i=>Q (some i) H1 | _=>False
theorem i6:@Cy=@rI0:=by
 funext g x y H Q
 refine propext ⟨fun h=>?_,fun ⟨i,j,e,f,h⟩=>by subst e;subst f;exact h⟩
 unfold Cy at h
 split at h
 ·exact ⟨_,_,rfl,rfl,h⟩
 ·exact h.elim
theorem ym:@rID=@rI:=by
 funext C g x y H Q
 refine propext ⟨fun h=>?_,fun ⟨i,j,e,f,h⟩=>by subst e;subst f;exact h⟩
 unfold rID at h
 split at h
 ·exact ⟨_,_,rfl,rfl,h⟩
 ·exact h.elim
theorem rUD_eq:@rUD=@rU:=by
 funext g x H Q
 refine propext ⟨fun h=>?_,fun ⟨i,e,h⟩=>by subst e;exact h⟩
 unfold rUD at h
 split at h
 ·exact ⟨_,rfl,h⟩
 ·exact h.elim
theorem blD {x:V} {Q:Bool→Prop}:(match x with | .bl c=>Q c | _=>False)=∃c,x=.bl c∧Q c:=by
 refine propext ⟨fun h=>?_,fun ⟨i,e,h⟩=>by subst e;exact h⟩
 split at h
 ·exact ⟨_,rfl,h⟩
 ·exact h.elim
theorem jv:@tBD=@tB:=by
 funext t σ H Q
 exact congrArg (t σ H) (funext fun x=>funext fun H1=>blD)
theorem Hb:@Cs=@Hs:=by
 funext t σ H Q
 refine congrArg (t σ H) (funext fun x=>funext fun H1=>propext ⟨fun h=>?_,fun ⟨i,e,h⟩=>by subst e;exact h⟩)
 split at h
 ·exact ⟨_,rfl,h⟩
 ·exact h.elim
variable {X:Cx}
theorem M8:OpR X (binaryOp .Add) (Cy fun i j=>.int (i+j)):=i6 ▸ op_add
theorem L7:OpR X (binaryOp .Sub) (Cy fun i j=>.int (i - j)):=i6 ▸ op_sub
theorem ow:OpR X (compareOp .Lt) (Cy fun i j=>.bl (decide (i < j))):=i6 ▸ op_lt
theorem i7:OpR X (compareOp .Gt) (Cy fun i j=>.bl (decide (j < i))):=i6 ▸ op_gt
theorem yx:OpR X (binaryOp .Mult) (rID CMul fun i j=>.int (i*j)):=ym ▸ op_mul
theorem J8:OpR X (binaryOp .FloorDiv) (rID ox fun i j=>.int (i / j)):=ym ▸ Mi
theorem Ny:OpR X (binaryOp .Mod) (rID (fun _ j=>0 < j) fun i j=>.int (i % j)):=ym ▸ op_mod
theorem iq:OpR X (binaryOp .Pow) (rID CPow fun i j=>.int (i ^ j.toNat)):=ym ▸ op_pow
theorem ng:UnR X (unaryOp .USub) (rUD fun i=>.int (-i)):=rUD_eq ▸ un_neg
theorem Mp {e:Expr} {t:TE} (h:PE X e t) (he:∀whole,isTrue e X.env whole=(do let v ←whole;standAt e.pos;holding [v] (truthy v))):PT X e (tBD t):=jv ▸ pt_val h he
theorem L5 {a b:Expr} {pos:Pos} {op:CmpOp} {t:TE} (h:PC X op a b t) (h1:behindInMarks op b=false):PT X (.Compare a [op] [b] pos) (tBD t):=jv ▸ pt_cmp h h1
theorem Ap {a b:Expr} {ta tb:TE} {pos:Pos} {op:CmpOp} {r:R2} (ho:OpR X (compareOp op) r) (ha:PE X a ta) (hb:PE X b tb) (hm:behindInMarks op b=false):PT X (.Compare a [op] [b] pos) (tBD (tOp r ta tb)):=jv ▸ Ma ho ha hb hm
theorem Ku {e:Expr} {te:TE} (h:PE X e te):PO X (some e) (Cs te):=Hb ▸ Ou h
def Ko (K:PySem.W.Frag):List V→Hp→VK→Prop:=fun xs H Q=>match xs with | [.ref p]=>∃ys,(SqL K H p ys∨SqT K H p ys)∧Q (.int ys.length) H | _=>False
def Lb (K:PySem.W.Frag):List V→Hp→VK→Prop:=fun xs H Q=>match xs with | [.ref p]=>∃ys,(SqL K H p ys∧∀l,H l=none→Q (.ref l) (upd H l (.tup ys)))∨(SqT K H p ys∧Q (.ref p) H) | _=>False
def Jk:List V→Hp→VK→Prop:=fun xs H Q=>match xs with | [.int i]=>Q (.int i) H | [.bl k]=>Q (.int (if k then 1 else 0)) H | _=>False
theorem wc:gj X (.builtin "len") (Ko X.K):=by
 refine Eq.mp (congrArg _ ?_) yf
 funext xs H Q
 refine propext ⟨fun ⟨p,ys,e,h⟩=>by subst e;exact ⟨ys,h⟩,fun h=>?_⟩
 unfold Ko at h
 split at h
 ·exact h.elim fun ys h=>⟨_,ys,rfl,h⟩
 ·exact h.elim
theorem ui:gj X (.type "tuple") (Lb X.K):=by
 refine Eq.mp (congrArg _ ?_) vz
 funext xs H Q
 refine propext ⟨fun ⟨p,ys,e,h⟩=>by subst e;exact ⟨ys,h⟩,fun h=>?_⟩
 unfold Lb at h
 split at h
 ·exact h.elim fun ys h=>⟨_,ys,rfl,h⟩
 ·exact h.elim
theorem gp:gj X (.type "int") Jk:=by
 refine Eq.mp (congrArg _ ?_) G4
 funext xs H Q
 refine propext ⟨fun h=>?_,fun h=>?_⟩
 ·rcases h with ⟨i,e,h⟩ | ⟨k,e,h⟩ <;> subst e <;> exact h
 unfold Jk at h
 split at h
 ·exact .inl ⟨_,rfl,h⟩
 ·exact .inr ⟨_,rfl,h⟩
 ·exact h.elim
end L2
namespace Pc
section
variable {κ:Type} [DecidableEq κ]
noncomputable def cost (g:κ→Option Int):Int→List κ→Option Int
 | c,[]=>some c
 | c,k::r=>match g k with
  | none=>none
  | some v=>cost g (c+v) r
structure Ft (κ:Type) where
 key:κ
 own:Int
 hs:List κ
theorem gf {g:κ→Option Int} {c:Int} {k:κ} {r:List κ} {v:Int} (h:g k=some v):cost g c (k::r)=cost g (c+v) r:=by
 show (match g k with | none=>none | some v=>cost g (c+v) r)=_
 rw [h]
theorem ie {g:κ→Option Int} {c:Int} {k:κ} {r:List κ} (h:g k=none):cost g c (k::r)=none:=by
 show (match g k with | none=>none | some v=>cost g (c+v) r)=_
 rw [h]
theorem j6 {g:κ→Option Int} {c x:Int} {k:κ} {r:List κ} (h:cost g c (k::r)=some x):∃v,g k=some v∧cost g (c+v) r=some x:=by
 cases e:g k with
 | none=>rw [ie e] at h;cases h
 | some v=>rw [gf e] at h;exact ⟨v,rfl,h⟩
theorem qy {g g':κ→Option Int}:∀{hs:List κ} {c c' x:Int},(∀k∈hs,∀v,g k=some v→∃v',g' k=some v'∧v'≤v)→c'≤c→cost g c hs=some x→∃x',cost g' c' hs=some x'∧x'≤x
 | [],c,c',x,_,hc,h=>⟨c',rfl,by cases h;exact hc⟩
 | k::r,c,c',x,hk,hc,h=>by
  obtain ⟨v,hv,h⟩:=j6 h
  obtain ⟨v',hv',le⟩:=hk k List.mem_cons_self v hv
  obtain ⟨x',hx',le'⟩:=qy (c':=c'+v') (fun k' m=>hk k' (List.mem_cons_of_mem _ m)) (by omega) h
  exact ⟨x',by rw [gf hv'];exact hx',le'⟩
theorem t4 {g g':κ→Option Int}:∀{hs:List κ} {c:Int},(∀k∈hs,g k=g' k)→cost g c hs=cost g' c hs
 | [],c,_=>rfl
 | k::r,c,h=>by
  have e:=h k List.mem_cons_self
  cases q:g k with
  | none=>rw [ie q,ie (e ▸ q)]
  | some v=>rw [gf q,gf (e ▸ q)];exact t4 fun k' m=>h k' (List.mem_cons_of_mem _ m)
theorem sk {g:κ→Option Int} (pos:∀k v,g k=some v→1≤v):∀{hs:List κ} {c x:Int},cost g c hs=some x→c≤x
 | [],c,x,h=>by cases h;exact Int.le_refl _
 | k::r,c,x,h=>by
  obtain ⟨v,hv,h⟩:=j6 h
  have:=sk pos h
  have:=pos k v hv
  omega
theorem E4 {g:κ→Option Int} (pos:∀k v,g k=some v→1≤v):∀{hs:List κ} {c x:Int},1≤c→cost g c hs=some x→∀k∈hs,∃v,g k=some v∧v < x
 | [],c,x,_,_,k,hk=>nomatch hk
 | k::r,c,x,hc,h,k',hk=>by
  obtain ⟨v,hv,h2⟩:=j6 h
  have p:=pos k v hv
  have p2:=sk pos h2
  rcases List.mem_cons.mp hk with e | hk
  ·exact ⟨v,by rw [e];exact hv,by omega⟩
  ·exact E4 pos (by omega) h2 k' hk
theorem vx {g:κ→Option Int} {M:Int} (h0:0≤M) (hM:∀k v,g k=some v→v≤M):∀{hs:List κ} {c x:Int},cost g c hs=some x→x≤c+hs.length*M
 | [],c,x,h=>by cases h;simp
 | k::r,c,x,h=>by
  obtain ⟨v,hv,h⟩:=j6 h
  have:=vx h0 hM h
  have:=hM k v hv
  rw [List.length_cons,Int.natCast_add,Int.add_mul]
  omega
def iu (F:List (Ft κ)) (g:κ→Option Int):Prop:=∀f∈F,∀c,cost g f.own f.hs=some c→∃v,g f.key=some v∧v≤c
def Due (F:List (Ft κ)) (g:κ→Option Int):Prop:=∀k v,g k=some v→∃f∈F,f.key=k∧∃c,cost g f.own f.hs=some c∧c≤v
structure Tbl (F:List (Ft κ)) (g:κ→Option Int):Prop where
 st:iu F g
 du:Due F g
 pos:∀k v,g k=some v→1≤v
theorem Tbl.exact {F:List (Ft κ)} {g:κ→Option Int} (h:Tbl F g) {k:κ} {v:Int} (hv:g k=some v):∃f∈F,f.key=k∧cost g f.own f.hs=some v:=by
 obtain ⟨f,hf,rfl,c,hc,le⟩:=h.du k v hv
 obtain ⟨v',hv',le'⟩:=h.st f hf c hc
 obtain rfl:v=v':=Option.some.inj (hv.symm.trans hv')
 exact ⟨f,hf,rfl,by rw [hc];congr 1;omega⟩
theorem Tbl.le {F:List (Ft κ)} {g g':κ→Option Int} (h:Tbl F g) (h':Tbl F g') (own:∀f∈F,1≤f.own):∀(n:Nat) (k:κ) (v:Int),v.toNat≤n→g k=some v→∃v',g' k=some v'∧v'≤v
 | 0,k,v,hn,hv=>by
  have:=h.pos k v hv
  omega
 | n+1,k,v,hn,hv=>by
  obtain ⟨f,hf,rfl,hc⟩:=h.exact hv
  have lt:=E4 h.pos (own f hf) hc
  have p:=h.pos _ v hv
  obtain ⟨x',hx',le⟩:=qy (g':=g') (c':=f.own) (fun k hk w hw=>by
   obtain ⟨w',hw',l⟩:=lt k hk
   obtain rfl:w=w':=Option.some.inj (hw.symm.trans hw')
   exact Tbl.le h h' own n k w (by omega) hw) (Int.le_refl _) hc
  obtain ⟨v',hv',le'⟩:=h'.st f hf x' hx'
  exact ⟨v',hv',by omega⟩
theorem Tbl.eq {F:List (Ft κ)} {g g':κ→Option Int} (h:Tbl F g) (h':Tbl F g') (own:∀f∈F,1≤f.own):g=g':=by
 funext k
 cases e:g k with
 | some v=>
  obtain ⟨v',hv',le⟩:=Tbl.le h h' own _ k v (Nat.le_refl _) e
  obtain ⟨v2,hv2,le2⟩:=Tbl.le h' h own _ k v' (Nat.le_refl _) hv'
  obtain rfl:v=v2:=Option.some.inj (e.symm.trans hv2)
  rw [hv']
  congr 1
  omega
 | none=>
  cases e':g' k with
  | none=>rfl
  | some v=>
   obtain ⟨v',hv',_⟩:=Tbl.le h' h own _ k v (Nat.le_refl _) e'
   rw [e] at hv'
   cases hv'
noncomputable def eh (g:κ→Option Int) (k:κ) (v:Int):κ→Option Int:=fun x=>if x=k then some v else g x
theorem cb {g:κ→Option Int} {k:κ} {v:Int}:eh g k v k=some v:=if_pos rfl
theorem dh {g:κ→Option Int} {k x:κ} {v:Int} (h:x≠k):eh g k v x=g x:=if_neg h
def Imp (g:κ→Option Int) (k:κ) (c:Int):Prop:=g k=none∨∃v,g k=some v∧c < v
theorem Imp.le {g:κ→Option Int} {k:κ} {c:Int} (h:Imp g k c) {x:κ} {v:Int} (hv:g x=some v):∃v',eh g k c x=some v'∧v'≤v:=by
 by_cases e:x=k
 ·subst e
  refine ⟨c,cb,?_⟩
  rcases h with h | ⟨w,h,l⟩
  ·rw [h] at hv;cases hv
  ·rw [h] at hv;cases hv;omega
 ·exact ⟨v,by rw [dh e];exact hv,Int.le_refl _⟩
theorem Mt {F:List (Ft κ)} {g:κ→Option Int} {f:Ft κ} {c:Int} (D:Due F g) (hf:f∈F) (hc:cost g f.own f.hs=some c) (im:Imp g f.key c):Due F (eh g f.key c):=fun k v hv=>by
 have up:∀{f':Ft κ} {c':Int},cost g f'.own f'.hs=some c'→∃x,cost (eh g f.key c) f'.own f'.hs=some x∧x≤c':=fun h=>qy (fun k _ v hv=>im.le hv) (Int.le_refl _) h
 by_cases e:k=f.key
 ·subst e
  rw [cb] at hv
  cases hv
  obtain ⟨x,hx,le⟩:=up hc
  exact ⟨f,hf,rfl,x,hx,le⟩
 ·rw [dh e] at hv
  obtain ⟨f',hf',e',c',hc',le⟩:=D k v hv
  obtain ⟨x,hx,le'⟩:=up hc'
  exact ⟨f',hf',e',x,hx,by omega⟩
noncomputable def cnt (F:List (Ft κ)) (g:κ→Option Int):Nat:=(F.filter fun f=>(g f.key).isSome).length
theorem Bu (F:List (Ft κ)) (g:κ→Option Int):cnt F g≤F.length:=List.length_filter_le _ _
theorem j0 {g g':κ→Option Int}:∀(F:List (Ft κ)),(∀f∈F,(g f.key).isSome→(g' f.key).isSome)→cnt F g≤cnt F g'
 | [],_=>Nat.le_refl _
 | f::F,h=>by
  have ih:=j0 F fun f' m=>h f' (List.mem_cons_of_mem _ m)
  have h0:=h f List.mem_cons_self
  unfold cnt at ih ⊢
  rw [List.filter_cons,List.filter_cons]
  cases e:(g f.key).isSome with
  | false=>
   rw [if_neg (by simp)]
   split
   ·rw [List.length_cons];omega
   ·exact ih
  | true=>
   rw [h0 e]
   simp only [if_true,List.length_cons]
   omega
theorem sd {g:κ→Option Int} {k:κ} {c:Int} (hn:g k=none):∀(F:List (Ft κ)),(∃f∈F,f.key=k)→cnt F g+1≤cnt F (eh g k c)
 | [],h=>by obtain ⟨f,hf,_⟩:=h;cases hf
 | f::F,h=>by
  have mono:=j0 (g:=g) (g':=eh g k c) F fun f' _ e=>by
   by_cases q:f'.key=k
   ·rw [q,cb];rfl
   ·rw [dh q];exact e
  unfold cnt at mono ⊢
  rw [List.filter_cons,List.filter_cons]
  by_cases q:f.key=k
  ·rw [q,hn,cb]
   simp only [Option.isSome_none,Option.isSome_some,if_true,Bool.false_eq_true,if_false,List.length_cons]
   omega
  ·rw [dh q]
   have ih:=sd (c:=c) hn F (by
    obtain ⟨f',hf',e⟩:=h
    rcases List.mem_cons.mp hf' with rfl | hf'
    ·exact absurd e q
    ·exact ⟨f',hf',e⟩)
   unfold cnt at ih
   cases (g f.key).isSome with
   | true=>simp only [if_true,List.length_cons];omega
   | false=>simp only [Bool.false_eq_true,if_false];omega
noncomputable def top (D P h:Nat):Nat→Nat
 | 0=>D
 | c+1=>top D P h c+P+h*top D P h c
theorem ju (D P h:Nat):∀{a b:Nat},a≤b→top D P h a≤top D P h b:=fun {a b} hab=>by
 induction hab with
 | refl=>exact Nat.le_refl _
 | @step m _ ih=>
  have:top D P h m≤top D P h (m+1):=by
   show _≤top D P h m+P+h*top D P h m
   rw [Nat.add_assoc]
   exact Nat.le_add_right _ _
  exact Nat.le_trans ih this
theorem my {α:Type} (f:α→Nat):∀l:List α,∃B,∀x∈l,f x≤B
 | []=>⟨0,fun _ h=>nomatch h⟩
 | a::l=>by
  obtain ⟨B,h⟩:=my f l
  refine ⟨f a+B,fun x hx=>?_⟩
  rcases List.mem_cons.mp hx with rfl | hx
  ·exact Nat.le_add_right _ _
  ·exact Nat.le_trans (h x hx) (Nat.le_add_left _ _)
noncomputable def room (B:Nat) (F:List (Ft κ)) (g:κ→Option Int):Nat:=(F.map fun f=>match g f.key with | some v=>v.toNat | none=>B+1).sum
theorem Ax {B:Nat} {g:κ→Option Int} {k:κ} {c:Int} (im:Imp g k c) (h0:0≤c) (hB:c.toNat≤B):∀(F:List (Ft κ)),room B F (eh g k c)≤room B F g∧((∃f∈F,f.key=k)→room B F (eh g k c) < room B F g)
 | []=>⟨Nat.le_refl _,fun h=>by obtain ⟨f,hf,_⟩:=h;cases hf⟩
 | f::F=>by
  obtain ⟨i1,i2⟩:=Ax (B:=B) im h0 hB F
  unfold room at i1 i2 ⊢
  rw [List.map_cons,List.map_cons,List.sum_cons,List.sum_cons]
  by_cases q:f.key=k
  ·rw [q,cb]
   rcases im with e | ⟨v,e,l⟩
   ·rw [e]
    show c.toNat+_≤B+1+_∧(_→c.toNat+_ < B+1+_)
    exact ⟨by omega,fun _=>by omega⟩
   ·rw [e]
    show c.toNat+_≤v.toNat+_∧(_→c.toNat+_ < v.toNat+_)
    exact ⟨by omega,fun _=>by omega⟩
  ·rw [dh q]
   refine ⟨by omega,fun h=>?_⟩
   have:=i2 (by
    obtain ⟨f',hf',e⟩:=h
    rcases List.mem_cons.mp hf' with rfl | hf'
    ·exact absurd e q
    ·exact ⟨f',hf',e⟩)
   omega
theorem ends {F:List (Ft κ)} {g0:κ→Option Int} (pos0:∀k v,g0 k=some v→1≤v) (own:∀f∈F,1≤f.own) (hB:∃D:Nat,∀k v,g0 k=some v→v≤(D:Int)):
  ∃(μ:(κ→Option Int)→Nat) (Ok:(κ→Option Int)→Prop),Ok g0∧(∀g,Ok g→∀k v,g k=some v→1≤v)∧∀g f c,Ok g→f∈F→cost g f.own f.hs=some c→Imp g f.key c→Ok (eh g f.key c)∧μ (eh g f.key c) < μ g:=by
 obtain ⟨D,hD⟩:=hB
 obtain ⟨P,hP⟩:=my (fun f:Ft κ=>f.own.toNat) F
 obtain ⟨h,hh⟩:=my (fun f:Ft κ=>f.hs.length) F
 refine ⟨room (top D P h F.length) F,fun g=>(∀k v,g k=some v→1≤v∧v≤(top D P h (cnt F g):Int)),fun k v hv=>⟨pos0 k v hv,?_⟩,fun g ok k v hv=>(ok k v hv).1,fun g f c ok hf hc im=>?_⟩
 ·have a1:=hD k v hv
  have a2:=ju D P h (Nat.zero_le (cnt F g0))
  have a3:top D P h 0=D:=rfl
  omega
 ·have pos:∀k v,g k=some v→1≤v:=fun k v hv=>(ok k v hv).1
  have c1:=sk pos hc
  have o1:=own f hf
  have hmono:cnt F g≤cnt F (eh g f.key c):=j0 F fun f' _ e=>by
   by_cases q:f'.key=f.key
   ·rw [q,cb];rfl
   ·rw [dh q];exact e
  have hcb:c≤(top D P h (cnt F (eh g f.key c)):Int):=by
   rcases im with e | ⟨v,e,l⟩
   ·have a1:=vx (M:=(top D P h (cnt F g):Int)) (by omega) (fun k v hv=>(ok k v hv).2) hc
    have a2:f.own.toNat≤P:=hP f hf
    have a3:f.hs.length≤h:=hh f hf
    have a4:=sd (c:=c) e F ⟨f,hf,rfl⟩
    have a5:=ju D P h a4
    have a6:top D P h (cnt F g+1)=top D P h (cnt F g)+P+h*top D P h (cnt F g):=rfl
    have a7:f.hs.length*top D P h (cnt F g)≤h*top D P h (cnt F g):=Nat.mul_le_mul_right _ a3
    have a8:((f.hs.length*top D P h (cnt F g):Nat):Int)=(f.hs.length:Int)*(top D P h (cnt F g):Int):=by rw [Int.natCast_mul]
    omega
   ·have:=(ok _ v e).2
    have a5:=ju D P h hmono
    omega
  have tB:=ju D P h (Bu F (eh g f.key c))
  refine ⟨fun k v hv=>?_,(Ax im (by omega) (by omega) F).2 ⟨f,hf,rfl⟩⟩
  by_cases q:k=f.key
  ·subst q
   rw [cb] at hv
   cases hv
   exact ⟨by omega,hcb⟩
  ·rw [dh q] at hv
   obtain ⟨b1,b2⟩:=ok k v hv
   have a5:=ju D P h hmono
   exact ⟨b1,by omega⟩
end
end Pc
namespace L2
open PySem PySem.Spec PyProof.Rows
theorem lookup_mem {α:Type} {x:Str} {c:α}:∀{l:List (Str×α)},l.lookup x=some c→(x,c)∈l
 | [],h=>by cases h
 | (y,d)::r,h=>by
  rw [List.lookup_cons] at h
  cases e:x==y with
  | true=>
   rw [e] at h
   have e':x=y:=eq_of_beq e
   cases h
   subst e'
   exact List.mem_cons_self
  | false=>
   rw [e] at h
   exact List.mem_cons_of_mem _ (lookup_mem h)
noncomputable def wg (ix:List Nat) (σ:St):St:=ix.map fun j=>(σ[j]?).getD none
def SubP (cs:List (Str×Addr)):List (Str×Addr)→Prop
 | []=>True
 | p::r=>cs.lookup p.1=some p.2∧SubP cs r
theorem SubP.of {cs:List (Str×Addr)}:∀{cl:List (Str×Addr)},SubP cs cl→∀p∈cl,cs.lookup p.1=some p.2
 | [],_,_,h=>by cases h
 | p::r,⟨h1,h2⟩,q,hq=>by
  rcases List.mem_cons.mp hq with e | e
  ·rw [e];exact h1
  ·exact SubP.of h2 q e
def Ao (X:Cx) (scope:Scope):List Str→List Nat→Prop
 | [],[]=>True
 | x::fr,j::ix=>(X.N[j]?=some x∧X.env.kindOf x=some .cell∧(relabel scope X.env).names.lookup x=some .cell)∧Ao X scope fr ix
 | _,_=>False
theorem Ao.len {X:Cx} {scope:Scope}:∀{fr:List Str} {ix:List Nat},Ao X scope fr ix→fr.length=ix.length
 | [],[],_=>rfl
 | x::fr,j::ix,h=>by rw [List.length_cons,List.length_cons,Ao.len h.2]
 | [],_::_,h=>h.elim
 | _::_,[],h=>h.elim
theorem Ao.get {X:Cx} {scope:Scope}:∀{fr:List Str} {ix:List Nat},Ao X scope fr ix→∀(k j:Nat),ix[k]?=some j→∃x,fr[k]?=some x∧X.N[j]?=some x∧X.env.kindOf x=some .cell∧(relabel scope X.env).names.lookup x=some .cell
 | [],[],_,k,j,e=>by simp at e
 | x::fr,i::ix,h,0,j,e=>by
  have e':i=j:=by simpa using e
  subst e'
  exact ⟨x,rfl,h.1⟩
 | x::fr,i::ix,h,k+1,j,e=>by
  obtain ⟨y,hy,r⟩:=Ao.get h.2 k j (by simpa using e)
  exact ⟨y,by simpa using hy,r⟩
 | [],_::_,h,_,_,_=>h.elim
 | _::_,[],h,_,_,_=>h.elim
structure jk (X:Cx) (scope:Scope) (own fr:List Str) (ix:List Nat) (cl:List (Str×Addr)):Prop where
 clos:closureFor scope X.env=pure cl
 kind:scope.kind=.function
 nocell:(scope.names.all fun y=>decide (y.2≠.cell))=true
 names:(scope.names.all fun y=>decide (y.2≠.local)||decide (scope.names.lookup y.1=some .local))=true
 sub:SubP X.env.cells cl
 has:((relabel scope X.env).names.all fun y=>!(decide (y.2=.cell)||decide (y.2=.free))||(cl.lookup y.1).isSome)=true
 out':Ao X scope fr ix
section
variable {X:Cx} {scope:Scope} {own fr:List Str} {ix:List Nat} {cl:List (Str×Addr)}
theorem jk.len (C:jk X scope own fr ix cl):fr.length=ix.length:=C.out'.len
theorem jk.out (C:jk X scope own fr ix cl):∀(k j:Nat),ix[k]?=some j→∃x,fr[k]?=some x∧X.N[j]?=some x∧Vis X.env.scope x∧X.env.kindOf x≠some .local∧(relabel scope X.env).names.lookup x≠some .local:=fun k j e=>by
 obtain ⟨x,h1,h2,h3,h4⟩:=C.out'.get k j e
 exact ⟨x,h1,h2,.inr (.inl h3),(by rw [h3];intro z;cases z),(by rw [h4];intro z;cases z)⟩
theorem jk.Mv (C:jk X scope own fr ix cl):∀x∈scope.names,x.2≠.cell:=fun x hx=>of_decide_eq_true (List.all_eq_true.mp C.nocell x hx)
theorem jk.Iz (C:jk X scope own fr ix cl):∀x∈scope.names,x.2=.local→scope.names.lookup x.1=some .local:=fun x hx e=>by
 have h:=List.all_eq_true.mp C.names x hx
 rw [Bool.or_eq_true] at h
 rcases h with h | h
 ·exact absurd e (of_decide_eq_true h)
 ·exact of_decide_eq_true h
theorem jk.sub' (C:jk X scope own fr ix cl):∀x c,cl.lookup x=some c→X.env.cells.lookup x=some c:=fun x c h=>C.sub.of _ (lookup_mem h)
theorem jk.has' (C:jk X scope own fr ix cl):∀x,((relabel scope X.env).names.lookup x=some .cell∨(relabel scope X.env).names.lookup x=some .free)→∃c,cl.lookup x=some c:=fun x hx=>by
 have key:∀k,(relabel scope X.env).names.lookup x=some k→(k=.cell∨k=.free)→∃c,cl.lookup x=some c:=fun k e hk=>by
  have h:=List.all_eq_true.mp C.has (x,k) (lookup_mem e)
  rw [Bool.or_eq_true] at h
  rcases h with h | h
  ·rcases hk with rfl | rfl
   ·simp at h
   ·simp at h
  ·exact Option.isSome_iff_exists.mp h
 rcases hx with h | h
 ·exact key _ h (.inl rfl)
 ·exact key _ h (.inr rfl)
end
noncomputable def cxC (X:Cx) (scope:Scope) (cl:List (Str×Addr)) (ns:List Str) (fp:List Addr) (s:Shared) (H:Hp):Cx where
 prog:=X.prog
 w:=X.w
 K:=X.K
 mg:=X.mg
 base:=X.base
 A:=X.A
 N:=ns
 s₀:=s
 H₀:=H
 env:=compEnvC scope cl s.heap.objs.size X.env
 outer:=X.stack
 stack:=X.stack
 ex:=fp
 fn:=fun _=>false
 calm:=X.calm
 pn:=[]
 xe:=fun _ _=>False
section
variable {X:Cx} {scope:Scope} {own fr:List Str} {ix:List Nat} {cl:List (Str×Addr)} {pins:List (Addr×Obj)} {σ:St} {H:Hp} {s:Shared} {fp:List Addr}
theorem cxC_ok (C:jk X scope own fr ix cl) (I:Inv X pins σ H s) (f:∀b∈fp,qo X pins H b) (lt:∀b∈fp,b < s.heap.objs.size):(cxC X scope cl (own++fr) fp s H).Ok where
 mod:=I.ok.mod
 kind:=C.kind
 glob:=I.ok.glob
 blt:=I.ok.blt
 above:=Nat.le_refl _
 inj:=fun x y c h1 h2=>I.ok.inj x y c (C.sub' x c h1) (C.sub' y c h2)
 has:=fun x hx=>C.has' x hx
 cab:=fun x c h _=>Bool.noConfusion h
 hd:=I.ok.hd
 frames:=I.ok.frames
 stk:=.inl rfl
 exf:=fun b hb=>⟨Nat.ne_of_lt (lt b hb),fun x c e=>(f b hb).2.2.2.2.1 x c (C.sub' x c e)⟩
 bs:=fun b o e=>I.bs b o e
 bsz:=Nat.le_trans I.ok.bsz I.sz
 noex:=fun b o e hb=>by
  rcases (f b hb).2.2.2.1 with z | z
  ·exact I.ok.noex b o e z
  ·exact absurd (Nat.lt_of_lt_of_le (Heap.lt_size e) (Nat.le_trans I.ok.bsz z)) (Nat.lt_irrefl _)
 exfs:=fun b hb z=>by
  rcases List.mem_cons.mp (I.Dl b z) with q | q
  ·exact (f b hb).2.1 q
  ·exact (f b hb).2.2.1 q
 qk:=I.stack
 frf:=I.Dq
theorem J6 (C:jk X scope own fr ix cl) (I:Inv X pins σ H s) (f:∀b∈fp,qo X pins H b) (lt:∀b∈fp,b < s.heap.objs.size) {h₁:Heap} {t:Nat} {m:Str→Option Value}
  (hns:h₁.Ns s.heap.objs.size m) (k:∀b o,s.heap.get? b=some o→h₁.get? b=some o):
  Inv (cxC X scope cl (own++fr) fp s H) [] (List.replicate own.length none++wg ix σ) H { s with heap:=h₁,toks:=t } where
 ok:=cxC_ok C I f lt
 os:=rfl
 bare:=I.bare
 base:=Un.kept k
 loc:=⟨m,hns,fun i x v e1 e2 e3=>by
  have e1:(own++fr)[i]?=some x:=e1
  by_cases hi:i < own.length
  ·rw [List.getElem?_append_left (by simpa using hi),List.getElem?_replicate] at e2
   rw [if_pos hi] at e2
   cases e2
  ·have hi':own.length≤i:=Nat.le_of_not_lt hi
   rw [List.getElem?_append_right (by simpa using hi')] at e2
   rw [List.getElem?_append_right hi'] at e1
   rw [List.length_replicate] at e2
   unfold wg at e2
   rw [List.getElem?_map] at e2
   cases q:ix[i - own.length]? with
   | none=>rw [q] at e2;cases e2
   | some j=>
    rw [q] at e2
    have e2':(σ[j]?).getD none=some v:=Option.some.inj e2
    obtain ⟨x',hx',hN,hv,hk,hl'⟩:=C.out _ j q
    rw [e1] at hx'
    cases hx'
    have e4:σ[j]?=some (some v):=by
     cases z:σ[j]? with
     | none=>rw [z] at e2';cases e2'
     | some w=>rw [z] at e2';exact congrArg some e2'
    obtain ⟨mX,hnX,hl⟩:=I.loc
    obtain ⟨u,r,l⟩:=hl j x v hN e4 hv
    rcases l with ⟨kl,_⟩ | ⟨kk,c,ec,z⟩
    ·exact absurd kl hk
    ·have kY:(relabel scope X.env).names.lookup x=some .cell∨(relabel scope X.env).names.lookup x=some .free:=by
      rcases e3 with e3 | e3 | e3
      ·exact absurd e3 hl'
      ·exact .inl e3
      ·exact .inr e3
     obtain ⟨c',hc'⟩:=C.has' x kY
     have hcc:=C.sub' x c' hc'
     rw [ec] at hcc
     cases hcc
     obtain ⟨o,ho,hd⟩:=z
     exact ⟨u,r,.inr ⟨kY,c,hc',⟨o,k c o ho,hd⟩⟩⟩⟩
 cell:=fun x c e=>by
  obtain ⟨v,o,ho,hd⟩:=I.cell x c (C.sub' x c e)
  exact ⟨v,o,k c o ho,hd⟩
 free:=I.hok.fresh (Nat.le_refl _)
 freeC:=fun x c e=>I.freeC x c (C.sub' x c e)
 pin:=fun p hp=>by cases hp
 hok:=I.hok.kept k
 len:=by
  show (List.replicate own.length none++wg ix σ).length=(own++fr).length
  rw [List.length_append,List.length_append,List.length_replicate,C.len]
  unfold wg
  rw [List.length_map]
theorem Lm (I:Inv X pins σ H s) (f:∀b∈fp,qo X pins H b) {ns:List Str} {τ:St} {H':Hp} {s':Shared} {pins':List (Addr×Obj)} (J:Inv (cxC X scope cl ns fp s H) pins' τ H' s'):Inv X pins σ H' s':=
 I.call' (ch:=fp) J.os J.base J.hok J.bare fun b hb=>⟨(f b hb).2.2.2.1,(f b hb).2.1,(f b hb).2.2.2.2.1,(f b hb).2.2.2.2.2⟩
theorem Ac {σ':St} (I:Inv X pins σ H s) {H':Hp} {s':Shared} {h':Heap} (J:Inv X pins σ' H' s') (free:H' s.heap.objs.size=none) (sb:Heap.SameBut s.heap.objs.size s'.heap h'):Inv X pins σ' H' { s' with heap:=h' }:=
 J.turned (it:=s.heap.objs.size) (t':=s'.toks) (fun b o hb e=>(sb.2 b hb).trans e) free (Nat.ne_of_gt I.lt) (.inr I.sz)
  (fun x c e z=>by
   obtain ⟨v,q⟩:=I.cell x c e
   exact absurd (z ▸ q.lt) (Nat.lt_irrefl _))
  (fun p hp z=>absurd (z ▸ Heap.lt_size (I.pin p hp).1) (Nat.lt_irrefl _))
end
section
variable {prog:Program} {w:World} {A:Around} {R:Result→Shared→Prop} {s:Shared}
theorem yh {elt target iter:Expr} {ifs:List Expr} {scope:Scope} {pos:Pos} {it acc:Value} {env:Env} (I:Nat→Shared→Prop)
  (turn:∀n s,I n s→wpAny (model prog w) A (pyNext it) (fun r s₁=>match r with
   | none=>R (.ok .next) s₁
   | some v=>wpAny (model prog w) A (letOwnedTupleGo target it v) (fun _ s₁'=>wpAny (model prog w) A (assign target env v) (fun _ s₂=>
     wpAny (model prog w) A (forIn ifs true fun c r=>if r=true then do let ok ←isTrue c env (eval c env);pure (ForInStep.yield ok) else pure (ForInStep.yield r)) (fun ok s₃=>
      if ok=true then wpAny (model prog w) A (eval elt env) (fun x s₄=>
       wpAny (model prog w) A (call (.builtin "list.append") [acc,x]) (fun _ s₅=>∃m,m < n∧I m s₅) (notedBy (model prog w) A env fun e s'=>R (.error e) s') s₄) (notedBy (model prog w) A env fun e s'=>R (.error e) s') s₃
      else ∃m,m < n∧I m s₃) (notedBy (model prog w) A env fun e s'=>R (.error e) s') s₂) (notedBy (model prog w) A env fun e s'=>R (.error e) s') s₁') (notedBy (model prog w) A env fun e s'=>R (.error e) s') s₁)
    (notedBy (model prog w) A env fun e s'=>R (.error e) s') s)
  (n:Nat) (h:I n s):
  codeAny (model prog w) A (.compLoop (.ListComp elt [⟨target,iter,ifs,0⟩] scope pos) 0 it acc env) R s:=by
 refine codeAny_loop rfl I (fun n s hI=>?_) n h
 show wpAny _ A ((compTurn (.ListComp elt [⟨target,iter,ifs,0⟩] scope pos) 0 it acc env).onRaise (fun x=>do noteFrame x env;theTreesLotGoes x)) _ _ s
 refine wpAny_noted ?_
 rw [compTurn_list]
 refine wpAny_bind (wpAny_standAt (wpAny_bind (wpAny_mono (turn n s hI) (fun r s₁ h₁=>?_) fun _ _ h'=>h')))
 cases r with
 | none=>exact wpAny_pure h₁
 | some v=>
  refine wpAny_bind (wpAny_mono h₁ (fun _ s₁' h₁'=>?_) fun _ _ h'=>h')
  refine wpAny_bind (wpAny_mono h₁' (fun _ s₂ h₂=>wpAny_bind (wpAny_mono h₂ (fun ok s₃ h₃=>?_) fun _ _ h'=>h')) fun _ _ h'=>h')
  cases ok with
  | false=>exact wpAny_pure ⟨rfl,h₃⟩
  | true=>
   exact wpAny_bind (wpAny_bind (wpAny_mono h₃ (fun x s₄ h₄=>wpAny_bind (wpAny_mono h₄ (fun _ s₅ h₅=>wpAny_pure (wpAny_pure ⟨rfl,h₅⟩)) fun _ _ h'=>h')) fun _ _ h'=>h'))
end
def PIfs (X:Cx) (ifs:List Expr) (t:TT):Prop:=
 ∀(pins:List (Addr×Obj)) (s:Shared) (σ:St) (H:Hp) (Q:Bool→Hp→Prop),Inv X pins σ H s→t σ H Q→
  wpAny (model X.prog X.w) X.A (forIn ifs true fun c r=>if r=true then do let ok ←isTrue c X.env (eval c X.env);pure (ForInStep.yield ok) else pure (ForInStep.yield r)) (TP X pins σ Q) X.xe s
def tNoIf:TT:=fun _ H Q=>Q true H
theorem pif0 {X:Cx}:PIfs X [] tNoIf:=fun pins s σ H Q I h=>wpAny_tests_nil ⟨H,I,h⟩
theorem pif1 {X:Cx} {c:Expr} {t:TT} (h:PT X c t):PIfs X [c] t:=fun pins s σ H Q I q=>wpAny_tests_one (h pins s σ H Q I q)
def LC (n:Nat) (fr:St) (g:TG) (tc:TT) (te:TE) (J:It) (D:Addr) (H1:Hp) (Q:Hp→Prop):Prop:=
 ∃W:Nat→Nat→Hp→Prop,(∃m,W 0 m (upd H1 D (.lst [])))∧∀i m H,W i m H→
  (J.stop i H∧Q H)∨(J.go i H∧∀(τ:St) x H',τ.length=n→J.yld i H x H'→g x (τ++fr) H' fun σ2 H2=>(∃τ':St,τ'.length=n∧σ2=τ'++fr)∧tc σ2 H2 fun b H3=>
   if b=true then te σ2 H3 fun y H4=>∃ys,H4 D=some (.lst ys)∧ys.length < sizeLine∧∃m',m' < m∧W (i+1) m' (upd H4 D (.lst (ys++[y]))) else ∃m',m' < m∧W (i+1) m' H3)
def tLC (n:Nat) (ix:List Nat) (wi:TI) (g:TG) (tc:TT) (te:TE):TE:=fun σ H Q=>wi σ H fun J H1=>∀D,H1 D=none→LC n (wg ix σ) g tc te J D H1 fun H'=>Q (.ref D) H'
section
variable {X:Cx} {scope:Scope} {own fr:List Str} {ix:List Nat} {cl:List (Str×Addr)} {elt iter tg:Expr} {ifs:List Expr} {pos:Pos} {wi:TI} {g:TG} {tc:TT} {te:TE}
theorem uq {E:Value→Shared→Prop} {RR:Value→Addr→Result→Shared→Prop} (C:jk X scope own fr ix cl) (hc:X.calm=true)
  (hg:∀fp s H,PG (cxC X scope cl (own++fr) fp s H) tg g) (ht:∀fp s H,PIfs (cxC X scope cl (own++fr) fp s H) ifs tc) (he:∀fp s H,PE (cxC X scope cl (own++fr) fp s H) elt te)
  {pins:List (Addr×Obj)} {σ:St} {H2:Hp} {s2:Shared} {it:Addr} {fp:List Addr} {tn:Nat→Heap→Prop} {J:It} {Q:Hp→Prop} (I2:Inv X pins σ H2 s2) (T:Turn X.prog X.w X.K tg J fp it tn) (st2:tn 0 s2.heap) (f2:∀b∈fp,qo X pins H2 b)
  (q:LC own.length (wg ix σ) g tc te J s2.heap.objs.size H2 Q)
  (hRR:∀(s3 s':Shared) (H3 H':Hp) (τ:St),Inv X pins σ H3 s3→Inv X pins σ H' s'→H' s3.heap.objs.size=none→(∃m,s'.heap.Ns s3.heap.objs.size m)→Q H'→RR (.ref s2.heap.objs.size) s3.heap.objs.size (.ok .next) s'):
  wpAny (model X.prog X.w) X.A (newList []) (fun acc s₃=>wpAny (model X.prog X.w) X.A (newFunctionEnv scope X.env.globals cl [] X.env.qual none .none (some X.env)) (fun cenv s₄=>
   codeAny (model X.prog X.w) X.A (.compStart (.ListComp elt [⟨tg,iter,ifs,0⟩] scope pos) 0 (.ref it) acc { cenv with scope:=relabel scope X.env }) (RR acc cenv.locals) s₄) E s₃) E s2:=by
 refine wpAny_newObj_type ?_
 have I3:Inv X pins σ (upd H2 s2.heap.objs.size (.lst [])) { s2 with heap:=s2.heap.push { cls:=.type "list",dict:=none,data:=.seq ([]:List Value).toArray } }:=I2.lnew (t':=s2.toks) (its:=[]) .nil (Nat.zero_le _)
 have lt2:∀b∈fp,b < s2.heap.objs.size:=fun b hb=>by
  obtain ⟨o,e,_⟩:=T.obj 0 _ st2 b hb
  exact Heap.lt_size e
 have fneD:∀b∈fp,b≠s2.heap.objs.size:=fun b hb=>Nat.ne_of_lt (lt2 b hb)
 generalize hs3:({ s2 with heap:=s2.heap.push { cls:=.type "list",dict:=none,data:=.seq ([]:List Value).toArray } }:Shared)=s3 at I3 ⊢
 have hsz:s3.heap.objs.size=s2.heap.objs.size+1:=by rw [←hs3];exact Heap.size_push ..
 have kp23:∀b o,s2.heap.get? b=some o→s3.heap.get? b=some o:=fun b o e=>by rw [←hs3];exact Heap.get?_push_of_some _ e
 have f3:∀b∈fp,qo X pins (upd H2 s2.heap.objs.size (.lst [])) b:=fun b hb=>by
  obtain ⟨f0,fr⟩:=f2 b hb
  exact ⟨by rw [af (fneD b hb)];exact f0,fr⟩
 have lt3:∀b∈fp,b < s3.heap.objs.size:=fun b hb=>by rw [hsz];exact Nat.lt_succ_of_lt (lt2 b hb)
 refine wpAny_newFunctionEnv C.Mv (by intro y hy;simp at hy) (fun h₁ hns₁ hsb₁=>?_) C.kind
 have k34:∀b o,s3.heap.get? b=some o→h₁.get? b=some o:=fun b o e=>
  (hsb₁.2 b (Nat.ne_of_lt (Heap.lt_size e))).trans (Heap.get?_push_of_some _ e)
 have I4:=J6 C I3 f3 lt3 (t:=s3.toks+([]:List (Str×Value)).length) hns₁ k34
 have st4:tn 0 h₁:=T.keep 0 _ _ st2 fun b _ o e=>k34 b o (kp23 b o e)
 obtain ⟨W,⟨m0,w0⟩,turn⟩:=q
 have loop:∀s4:Shared,s4={ s3 with heap:=h₁,toks:=s3.toks+([]:List (Str×Value)).length }→
   codeAny (model X.prog X.w) X.A (.compLoop (.ListComp elt [⟨tg,iter,ifs,0⟩] scope pos) 0 (.ref it) (.ref s2.heap.objs.size) (compEnvC scope cl s3.heap.objs.size X.env)) (RR (.ref s2.heap.objs.size) s3.heap.objs.size) s4:=by
  rintro s4 rfl
  have stat:∀{H':Hp},(∀b∈fp,H' b=none)→∀b∈fp,qo (cxC X scope cl (own++fr) fp s3 (upd H2 s2.heap.objs.size (.lst []))) [] H' b:=fun {H'} hn b hb=>
   ⟨hn b hb,Nat.ne_of_lt (lt3 b hb),I4.ok.exfs b hb,.inl hb,(I4.ok.exf b hb).2,fun p hp=>by cases hp⟩
  refine yh (fun n s'=>∃i τ H',τ.length=own.length∧Inv (cxC X scope cl (own++fr) fp s3 (upd H2 s2.heap.objs.size (.lst []))) [] (τ++wg ix σ) H' s'∧tn i s'.heap∧(∀b∈fp,H' b=none)∧W i n H') ?_ m0
   ⟨0,List.replicate own.length none,_,List.length_replicate,I4,st4,fun b hb=>(f3 b hb).1,w0⟩
  rintro n s5 ⟨i,τ,H5,hτ,I5,st5,fr5,w5⟩
  rcases turn i n H5 w5 with ⟨stop,qn⟩ | ⟨go,step⟩
  ·refine wpAny_mono (T.done (cxC X scope cl (own++fr) fp s3 (upd H2 s2.heap.objs.size (.lst []))) rfl rfl rfl hc i [] s5 _ H5 (fun _ _=>False) I5 (stat fr5) st5 stop) (fun r s6 ⟨hr,I6⟩=>?_) fun _ _ z=>z.elim
   subst hr
   obtain ⟨mm,hmm,_⟩:=I6.loc
   exact hRR s3 s6 _ H5 τ I3 (Lm I3 f3 I6) I6.free ⟨mm,hmm⟩ qn
  ·refine wpAny_mono (T.item (cxC X scope cl (own++fr) fp s3 (upd H2 s2.heap.objs.size (.lst []))) rfl rfl rfl hc i [] s5 _ H5 (fun _ _=>False) I5 (stat fr5) st5 go) (fun r s6 ⟨u,hr,h6⟩=>?_) fun _ _ z=>z.elim
   subst hr
   refine wpAny_mono h6 (fun _ s7 ⟨x,H7,I7,r7,y7,st7,fr7⟩=>?_) fun _ _ z=>z.elim
   have I7':=I7.pinned (stat fr7) (T.obj _ _ st7)
   refine wpAny_mono (hg fp s3 _ _ s7 _ H7 x u _ I7' r7 (step τ x H7 hτ y7)) (fun _ s8 ⟨σ8,H8,I8,⟨τ',hτ',e8⟩,q8⟩=>?_) fun _ _ z=>z.elim
   have fin:∀{H9:Hp} {s9:Shared},Inv (cxC X scope cl (own++fr) fp s3 (upd H2 s2.heap.objs.size (.lst []))) ([]++vi fp s7.heap) σ8 H9 s9→(∃m',m' < n∧W (i+1) m' H9)→
     ∃m,m < n∧∃i τ H',τ.length=own.length∧Inv (cxC X scope cl (own++fr) fp s3 (upd H2 s2.heap.objs.size (.lst []))) [] (τ++wg ix σ) H' s9∧tn i s9.heap∧(∀b∈fp,H' b=none)∧W i m H':=fun {H9 s9} I9 hw=>by
    obtain ⟨m',hm,w9⟩:=hw
    refine ⟨m',hm,i+1,τ',H9,hτ',e8 ▸ I9.m7,T.keep _ _ _ st7 fun b hb o e=>(I9.pin (b,o) (List.mem_append_right _ (List.mem_append_right _ (jc hb e)))).1,fun b hb=>?_,w9⟩
    obtain ⟨o,e,d⟩:=T.obj _ _ st7 b hb
    exact (I9.pin (b,o) (List.mem_append_right _ (List.mem_append_right _ (jc hb e)))).2.1
   refine wpAny_mono (ht fp s3 _ _ s8 σ8 H8 _ I8 q8) (fun ok s9 ⟨H9,I9,q9⟩=>?_) fun _ _ z=>z.elim
   cases ok with
   | false=>exact fin I9 q9
   | true=>
    refine wpAny_mono (he fp s3 _ _ s9 σ8 H9 _ I9 q9) (fun y s10 ⟨v10,H10,I10,r10,ys,hD,hz,q10⟩=>?_) fun _ _ z=>z.elim
    refine wpAny_mono (xx (X:=cxC X scope cl (own++fr) fp s3 (upd H2 s2.heap.objs.size (.lst []))) _ s10 σ8 H10 (.ref s2.heap.objs.size) [v10] _ [y] (fun _ H'=>∃m',m' < n∧W (i+1) m' H') I10 rfl (.cons r10 .nil) ⟨_,ys,v10,rfl,rfl,hD,hz,q10⟩) (fun _ s11 ⟨_,H11,I11,_,q11⟩=>?_) fun _ _ z=>z.elim
    exact fin I11 q11
 exact codeAny_compStart_list (loop _ rfl) (T.self _ 0 _ _ _ st4 (loop _ rfl))
theorem pe_lc (C:jk X scope own fr ix cl) (hc:X.calm=true) (hi:PI X tg iter wi) (hg:∀fp s H,PG (cxC X scope cl (own++fr) fp s H) tg g)
  (ht:∀fp s H,PIfs (cxC X scope cl (own++fr) fp s H) ifs tc) (he:∀fp s H,PE (cxC X scope cl (own++fr) fp s H) elt te)
  (hs:∀x,foldedSetIterable iter X.env x=pure x:=by intro _;rfl):PE X (.ListComp elt [⟨tg,iter,ifs,0⟩] scope pos) (tLC own.length ix wi g tc te):=by
 intro pins s σ H Q I h
 rw [eval_ListComp]
 refine wpAny_comprehension_free (use:=none) rfl hs C.clos C.kind C.Iz (thn (hi pins s σ H _ I h) fun v s1 h1=>thn h1 fun itv s2 h2=>?_)
 obtain ⟨it,fp,tn,J,H2,e,I2,T,st2,f2,q⟩:=h2
 subst e
 refine uq (RR:=fun acc D=>compPost (model X.prog X.w) X.A X.xe none (EP X pins σ Q) acc D) C hc hg ht he I2 T st2 f2 (q _ (I2.hok.fresh (Nat.le_refl _))) fun s3 s' H3 H' τ I3 I' hn hm q'=>?_
 obtain ⟨m,hm⟩:=hm
 exact ⟨m,hm,fun h' sb=>⟨.ref s2.heap.objs.size,H',Ac I3 I' hn sb,rfl,q'⟩⟩
def Js (i n:Nat) (ix:List Nat) (wi:TI) (g:TG) (tc:TT) (te:TE):TS:=fun D σ H=>wi σ H fun J H1=>∀l,H1 l=none→LC n (wg ix σ) g tc te J l H1 fun H'=>D.nx (σ.set i (some (.ref l))) H'
theorem Ag {i:Nat} {x:Str} {px spos:Pos} (hN:X.N.Nodup) (hx:X.N[i]?=some x) (hl:Loc X.env.scope x) (C:jk X scope own fr ix cl) (hc:X.calm=true) (hi:PI X tg iter wi)
  (hg:∀fp s H,PG (cxC X scope cl (own++fr) fp s H) tg g) (ht:∀fp s H,PIfs (cxC X scope cl (own++fr) fp s H) ifs tc) (he:∀fp s H,PE (cxC X scope cl (own++fr) fp s H) elt te)
  (hsw:swapsWith (.ListComp elt [⟨tg,iter,ifs,0⟩] scope pos) (some (.Name x px)) spos.line X.env=pure true:=by rfl)
  (hs:∀x,foldedSetIterable iter X.env x=pure x:=by intro _;rfl) (hf:X.fn x=true∨X.env.scope.names.lookup x=some .local:=by first | exact .inl rfl | exact .inr rfl | assumption):
  PS X (.Assign [.Name x px] (.ListComp elt [⟨tg,iter,ifs,0⟩] scope pos) spos) (Js i own.length ix wi g tc te):=by
 intro pins s σ H D I h
 rw [exec_Assign_Name_used _ _ _ _ hsw]
 refine wpAny_bind (wpAny_standAt (wpAny_bind ?_))
 show wpAny _ X.A (do let _ ←comprehension (.ListComp elt [⟨tg,iter,ifs,0⟩] scope pos) scope X.env _ (newList []) false (eval iter X.env) (some (assign (.Name x px) X.env))) _ _ s
 refine wpAny_bind (wpAny_mono (wpAny_comprehension_free (use:=some (assign (.Name x px) X.env)) (Q:=fun _ s'=>SP X pins D .next s') rfl hs C.clos C.kind C.Iz
  (thn (hi pins s σ H _ I h) fun v s1 h1=>thn h1 fun itv s2 h2=>?_)) (fun _ s' hq=>wpAny_pure (wpAny_pure hq)) fun _ _ e=>e)
 obtain ⟨it,fp,tn,J,H2,e,I2,T,st2,f2,q⟩:=h2
 subst e
 refine uq (RR:=fun acc C=>compPost (model X.prog X.w) X.A X.xe (some (assign (.Name x px) X.env)) (fun _ s'=>SP X pins D .next s') acc C) C hc hg ht he I2 T st2 f2 (q _ (I2.hok.fresh (Nat.le_refl _))) fun s3 s' H3 H' τ I3 I' hn hm q'=>?_
 obtain ⟨m,hm⟩:=hm
 show wpAny _ X.A (assign (.Name x px) X.env (.ref s2.heap.objs.size)) _ _ _
 refine wpAny_assign_Name (wx I' hN hx hl (v:=.ref s2.heap.objs.size) rfl (fun s'' I'' hsb=>?_) hf)
 obtain ⟨a,sba,ha⟩:=hsb
 have hne:s3.heap.objs.size≠a:=by
  rcases ha with rfl | ha
  ·exact Nat.ne_of_gt I3.lt
  ·obtain ⟨v,qv⟩:=I3.cell x a ha
   exact Nat.ne_of_gt qv.lt
 exact ⟨m,hm.sameBut sba hne,fun h' sb=>⟨_,H',Ac I3 I'' hn sb,q'⟩⟩
end
end L2
namespace L2
open PySem PySem.Spec PyProof.Rows
noncomputable def Its (z:Str):It:=⟨fun i _=>i < z.cps.size,fun i H x H'=>H'=H∧∃c,z.cps[i]?=some c∧x=.str ⟨#[c]⟩,fun i _=>i=z.cps.size⟩
def iStr (tl:TE):TI:=fun σ H R=>tl σ H fun x H1=>∃z,x=.str z∧R (Its z) H1
section
variable {X:Cx} {tg:Expr}
end
theorem range_all (bs:List Bool) (tr:Nat→Bool) (h:∀(i:Nat) b,bs[i]?=some b→tr i=b):(List.range bs.length).all tr=bs.all id:=by
 apply Bool.eq_iff_iff.mpr
 constructor
 ·intro h1
  refine List.all_eq_true.mpr fun b hb=>?_
  obtain ⟨i,hi⟩:=List.getElem?_of_mem hb
  have hl:i < bs.length:=(List.getElem?_eq_some_iff.mp hi).1
  have:=List.all_eq_true.mp h1 i (List.mem_range.mpr hl)
  rw [h i b hi] at this
  exact this
 ·intro h1
  refine List.all_eq_true.mpr fun i hi=>?_
  have hl:i < bs.length:=List.mem_range.mp hi
  have hg:bs[i]?=some bs[i]:=List.getElem?_eq_getElem hl
  rw [h i _ hg]
  exact List.all_eq_true.mp h1 _ (List.getElem_mem hl)
section
variable {X:Cx}
theorem gz (hc:X.calm=true):gj X (.builtin "all") (fun xs H Q=>∃p bs,xs=[.ref p]∧SqL X.K H p (List.map V.bl bs)∧Q (.bl (bs.all id)) H):=by
 intro pins s σ H xs us Q I r h
 obtain ⟨p,bs,rfl,hq,q⟩:=h
 obtain ⟨u,rfl,rx⟩:=vals1 r
 cases rx
 obtain ⟨its,rv,pl,hz⟩:=I.list hq
 have hlen:bs.length=its.length:=by rw [←rv.length,List.length_map]
 refine call_all_walk (wpAny_pyIter_list pl.isList ?_)
 have hne:p≠s.heap.objs.size:=by
  obtain ⟨o,n,e,_⟩:=pl
  exact Nat.ne_of_lt (Heap.lt_size e)
 have I1:Inv X pins σ H { s with heap:=s.heap.push { cls:=.type "list_iterator",data:=.fields #[.ref p,.int 0 0] } }:=I.kept (t':=s.toks) fun b o e=>Heap.get?_push_of_some _ e
 have fp:=I.Bz (H':=H) (Nat.le_refl s.heap.objs.size) (I.hok.fresh (Nat.le_refl _))
 obtain ⟨f0,f1,f2,f3,f4,f5⟩:=fp
 refine ⟨s.heap.objs.size,_,_,its.toArray.size,_,_,fun i=>(bs[i]?).getD false,rfl,Walks.list (A:=X.A.in1) (by show X.A.handled=none;exact I.ok.hd hc) s.heap.objs.size p hne its.toArray,⟨⟨_,Heap.get?_push_size _ rfl,rfl,rfl⟩,?_⟩,?_,fun h' tk kk=>?_⟩
 ·obtain ⟨o,ho,r⟩:=pl.isList
  exact ⟨o,Heap.get?_push_of_some _ ho,r⟩
 ·intro i v s' Q' E' hv hQ
  have hv':its[i]?=some v:=by simpa using hv
  have hi:i < bs.length:=by rw [hlen];exact (List.getElem?_eq_some_iff.mp hv').1
  have hb:(bs.map V.bl)[i]?=some (V.bl bs[i]):=by rw [List.getElem?_map,List.getElem?_eq_getElem hi];rfl
  obtain ⟨u',hu',ru'⟩:=rv.get hb
  rw [hv'] at hu'
  cases hu'
  cases ru'
  dsimp only at hQ
  rw [List.getElem?_eq_getElem hi] at hQ
  exact wpAny_truthy_bool hQ
 ·rw [List.size_toArray,←hlen,range_all bs _ (fun i b e=>by rw [e];rfl)]
  exact ⟨.bl _,H,I1.turned (it:=s.heap.objs.size) (fun b o hb e=>kk b o (by simpa using hb) e) f0 f1 f3 f4 f5,rfl,q⟩
end
noncomputable def cutS (z:Str) (lo hi:Option Int):Str:=⟨((z.cps.toList.drop (HT.sIx z.length 0 lo)).take (HT.sIx z.length z.length hi - HT.sIx z.length 0 lo)).toArray⟩
section
variable {X:Cx}
def rSlS:V→Option Int→Option Int→Hp→VK→Prop:=fun x lo hi H Q=>∃z,x=.str z∧z.length≤sizeLine∧Q (.str (cutS z lo hi)) H
noncomputable def nu (z:Str) (n:Nat):Str:=⟨(List.replicate n z.cps.toList).flatten.toArray⟩
theorem xr (x:List Nat):∀(n:Nat) (acc:Array Nat),(List.replicate n x.toArray).foldl (·++·) acc=acc++(List.replicate n x).flatten.toArray
 | 0,acc=>by simp
 | n+1,acc=>by
  rw [List.replicate_succ,List.foldl_cons,xr x n,List.replicate_succ,List.flatten_cons]
  apply Array.toList_inj.mp
  simp
theorem Mh (z:Str) (n:Int) (h:0≤n):Txt.mul z n=nu z n.toNat:=by
 unfold Txt.mul nu
 by_cases h1:n < 1
 ·rw [if_pos h1]
  have e:n.toNat=0:=by omega
  rw [e]
  rfl
 ·rw [if_neg h1]
  by_cases h2:(n==1||z.length==0)=true
  ·rw [if_pos h2]
   rw [Bool.or_eq_true] at h2
   rcases h2 with h2 | h2
   ·have e:n=1:=eq_of_beq h2
    subst e
    show z=⟨(List.replicate 1 z.cps.toList).flatten.toArray⟩
    simp
   ·have e:z.length=0:=eq_of_beq h2
    have e0:z.cps=#[]:=Array.eq_empty_of_size_eq_zero e
    cases z with
    | mk c=>cases e0;simp
  ·rw [if_neg h2]
   have e:=xr z.cps.toList n.toNat #[]
   have e3:z.cps.toList.toArray=z.cps:=by simp
   rw [e3] at e
   rw [e]
   simp
theorem lb:OpR X (binaryOp .Mult) (fun x y H Q=>∃z n,x=.str z∧y=.int n∧0≤n∧n≤1000∧z.length≤1000∧Q (.str (nu z n.toNat)) H):=by
 intro pins s σ H x y v u Q I rx ry h
 obtain ⟨z,n,rfl,rfl,h0,h1,h2,q⟩:=h
 obtain ⟨t,rfl⟩:=rx
 obtain ⟨t',rfl⟩:=ry
 have hb:z.length*n.toNat≤1000*1000:=Nat.mul_le_mul h2 (by omega)
 refine SB.mul ⟨by rw [Bool.or_eq_false_iff];exact ⟨decide_eq_false (by omega),decide_eq_false (by omega)⟩,fun hn1 _=>?_,fun _ _=>?_⟩ fun t' k=>⟨.str _,H,I.tok _,⟨_,rfl⟩,by rw [Mh z n h0];exact q⟩
 ·have hp:0 < n:=by omega
  have h3:(z.length:Int)*n≤1000*n:=Int.mul_le_mul_of_nonneg_right (by omega) h0
  have h4:(z.length:Int)≤(2 ^ 63 - 1) / n:=Int.le_ediv_of_mul_le hp (by omega)
  omega
 ·unfold Builtin.Str.tooLong
  exact decide_eq_false (by have:=sizeLine_eq;omega)
theorem Bm:gj X (.builtin "isinstance") (fun xs H Q=>∃x n t b,xs=[x,.ty n]∧oq X.K H x t∧PySem.W.kitOne X.K t (.type n)=some b∧Q (.bl b) H):=by
 intro pins s σ H xs us Q I r h
 obtain ⟨x,n,t,b,rfl,ty,e,q⟩:=h
 obtain ⟨u,u2,rfl,r1,r2⟩:=vals2 r
 cases (show u2=Value.type n from r2)
 exact Gd I r1 ty e fun tk=>⟨.bl b,H,I.tok tk,rfl,q⟩
end
end L2
namespace L2
open PySem PySem.Spec PyProof.Rows
theorem aa {H:Hp} {p:Addr} (h:H p=none) (o:HO):ao H (upd H p o):=fun b u q=>by rw [af (ag q h)];exact q
theorem ao.upd {H H':Hp} {p:Addr} (e:ao H H') (h:H p=none) (o:HO):ao H (L2.upd H' p o):=fun b u q=>by rw [af (ag q h)];exact e b u q
theorem ao.tup {K:PySem.W.Frag} {H H':Hp} {a:Addr} {xs:List V} (e:ao H H') (h:SqT K H a xs):SqT K H' a xs:=by
 rcases h with (h | ⟨o,h⟩) | h
 ·exact .inl (.inl (e _ _ h))
 ·exact .inl (.inr ⟨o,e _ _ h⟩)
 ·exact .inr h
def Has (P:Program) (w:World) (K:PySem.W.Frag) (mg:Str→Option Value) (base:Heap) (k:Nat) (x:Str) (ps:List Str) (sp:Sp):Prop:=
 ∃(f:Addr) (fd:FuncData),n8 P w K mg base CX0 k f fd ps sp∧Binds K fd ps []∧PySem.W.keepIn K (.ref f)=true∧mg x=some (.ref f)
theorem Has.up {P:Program} {w:World} {K:PySem.W.Frag} {mg:Str→Option Value} {base:Heap} {j k:Nat} {x:Str} {ps:List Str} {sp:Sp} (h:Has P w K mg base j x ps sp) (l:j≤k):Has P w K mg base k x ps sp:=by
 obtain ⟨f,fd,F,r⟩:=h
 exact ⟨f,fd,F.mono l,r⟩
def Def (K:PySem.W.Frag) (mg:Str→Option Value) (x:Str) (st:Stmt) (ps:List Str):Prop:=
 ∃(f:Addr) (fd:FuncData),Fun K x x st f fd∧Binds K fd ps []∧mg x=some (.ref f)
theorem Def.has {P:Program} {w:World} {K:PySem.W.Frag} {mg:Str→Option Value} {base:Heap} {k:Nat} {x:Str} {st:Stmt} {N ps:List Str} {sp:Sp} (D:Def K mg x st ps) (S:az N ps (ah st)) (len:∀vs H Q E,sp vs H Q E→vs.length=ps.length)
  (hbody:∀(f:Addr) (cdv:Value) (A:Around) (outer:List Env) (s:Shared) (H:Hp) (vs:List V) (Q:VK) (E:XK),gy k (A.deeper (envOfC x (ah st) s.heap.objs.size f cdv))→sp vs H Q E→
   ∃t,PSs (qp CX0 P w K mg base N x (ah st) f cdv A outer s H E).nox (ay st) t∧t { nx:=fun _ H'=>Q .non H',rt:=Q } (start N vs) H):Has P w K mg base (k+1) x ps sp:=by
 obtain ⟨f,fd,F,b,m⟩:=D
 exact ⟨f,fd,F.ok S len fun cdv A outer s H vs Q E hr h=>hbody f cdv A outer s H vs Q E hr h,b,F.kp,m⟩
section
variable {X:Cx} {k:Nat} {ps:List Str} {sp:Sp} {x:Str} {p pos:Pos} {e:Expr} {es:List Expr} {t:TA}
theorem pe_has (h:Has X.prog X.w X.K X.mg X.base k x ps sp) (hr:gy k X.A) (ha:PA X (e::es) t) (hg:Gl X x:=by rfl) (hdb:(x==("__debug__":Str))=false:=by decide+kernel)
  (he:starEach (e::es) X.env=(false,eval e X.env)::starEach es X.env:=by rfl) (hpl:(backTo pos (starEach es X.env)).any (·.1)=false:=by rfl):
  PE X (.Call (.Name x p) (e::es) [] pos) (Lo sp [] E0 t):=by
 obtain ⟨f,fd,F,b,kp,m⟩:=h
 exact M7 F hr hg m kp b .nil pass0 ha hdb he hpl
end
theorem Cp {J:It} {fr:St} {tc:TT} {te:TE} {D:Addr} {H1:Hp} {Q:Hp→Prop} (n:Nat) (item:Nat→V) (P:Nat→List V→Prop) (hn:n < sizeLine) (hD:H1 D=none)
  (hgo:∀i H,i < n→ao H1 H→J.go i H) (hyld:∀i H x H',i < n→ao H1 H→J.yld i H x H'→H'=H∧x=item i) (hstop:∀H,ao H1 H→J.stop n H)
  (h0:P 0 [])
  (step:∀i ys H (G:Hp→Prop) (K':V→Hp→Prop),i < n→P i ys→ys.length≤i→ao H1 H→(∀H3,ao H H3→P (i+1) ys→G H3)→(∀y H4,ao H H4→P (i+1) (ys++[y])→K' y H4)→tc ([some (item i)]++fr) H fun b H3=>if b=true then te ([some (item i)]++fr) H3 K' else G H3)
  (done:∀ys H,P n ys→ys.length≤n→ao H1 H→H D=some (.lst ys)→Q H):LC 1 fr (ck 0) tc te J D H1 Q:=by
 refine ⟨fun i m H=>m=n - i∧i≤n∧∃ys,H D=some (.lst ys)∧P i ys∧ys.length≤i∧ao H1 H,⟨n,by simp,Nat.zero_le _,[],ae,h0,Nat.le_refl _,aa hD _⟩,?_⟩
 rintro i m H ⟨rfl,hi,ys,hys,hP,hl,hS⟩
 by_cases hlt:i < n
 ·refine .inr ⟨hgo i H hlt hS,fun τ x H' hτ hy=>?_⟩
  obtain ⟨e1,e2⟩:=hyld i H x H' hlt hS hy
  subst e1 e2
  obtain ⟨a,rfl⟩:∃a,τ=[a]:=List.length_eq_one_iff.mp hτ
  refine ⟨⟨[some (item i)],rfl,rfl⟩,step i ys H' (fun H3=>∃m',m' < n - i∧m'=n - (i+1)∧i+1≤n∧∃ys,H3 D=some (.lst ys)∧P (i+1) ys∧ys.length≤i+1∧ao H1 H3)
   (fun y H4=>∃zs,H4 D=some (.lst zs)∧zs.length < sizeLine∧∃m',m' < n - i∧m'=n - (i+1)∧i+1≤n∧∃ys,upd H4 D (.lst (zs++[y])) D=some (.lst ys)∧P (i+1) ys∧ys.length≤i+1∧ao H1 (upd H4 D (.lst (zs++[y])))) hlt hP hl hS (fun H3 q1 q2=>?_) (fun y H4 q1 q2=>?_)⟩
  ·exact ⟨n - (i+1),by omega,rfl,hlt,ys,q1 _ _ hys,q2,Nat.le_succ_of_le hl,hS.trans q1⟩
  ·refine ⟨ys,q1 _ _ hys,by omega,n - (i+1),by omega,rfl,hlt,ys++[y],ae,q2,?_,(hS.trans q1).upd hD _⟩
   rw [List.length_append,List.length_singleton]
   omega
 ·have e:i=n:=by omega
  subst e
  exact .inl ⟨hstop H hS,done ys H hP hl hS hys⟩
theorem Ov {K:PySem.W.Frag} {a:Addr} {xs:List V} {fr:St} {tc:TT} {te:TE} {D:Addr} {H1:Hp} {Q:Hp→Prop} (P:Nat→List V→Prop) (hS:SqL K H1 a xs) (hn:xs.length < sizeLine) (hD:H1 D=none) (h0:P 0 [])
  (step:∀i x ys H (G:Hp→Prop) (K':V→Hp→Prop),xs[i]?=some x→P i ys→ys.length≤i→ao H1 H→(∀H3,ao H H3→P (i+1) ys→G H3)→(∀y H4,ao H H4→P (i+1) (ys++[y])→K' y H4)→tc ([some x]++fr) H fun b H3=>if b=true then te ([some x]++fr) H3 K' else G H3)
  (done:∀ys H,P xs.length ys→ys.length≤xs.length→ao H1 H→H D=some (.lst ys)→Q H):LC 1 fr (ck 0) tc te (Itl K a) D H1 Q:=by
 have at':∀i,i < xs.length→xs[i]?=some (xs.getD i .non):=fun i hi=>by
  rw [List.getD_eq_getElem?_getD,List.getElem?_eq_getElem hi]
  rfl
 exact Cp xs.length (fun i=>xs.getD i .non) P hn hD (fun i H hi hs=>⟨xs,_,hs.seq hS,at' i hi⟩)
  (fun i H x H' hi hs hy=>⟨hy.1,Option.some.inj ((hy.2 xs (hs.seq hS)).symm.trans (at' i hi))⟩) (fun H hs=>⟨xs,hs.seq hS,Nat.le_refl _⟩) h0
  (fun i ys H G K' hi hp hl hs hG hK=>step i _ ys H G K' (at' i hi) hp hl hs hG hK) done
theorem Cr {K:PySem.W.Frag} {a:Addr} {xs:List V} {fr:St} {tc:TT} {te:TE} {D:Addr} {H1:Hp} {Q:Hp→Prop} (P:Nat→List V→Prop) (hS:SqT K H1 a xs) (hn:xs.length < sizeLine) (hD:H1 D=none) (h0:P 0 [])
  (step:∀i x ys H (G:Hp→Prop) (K':V→Hp→Prop),xs[i]?=some x→P i ys→ys.length≤i→ao H1 H→(∀H3,ao H H3→P (i+1) ys→G H3)→(∀y H4,ao H H4→P (i+1) (ys++[y])→K' y H4)→tc ([some x]++fr) H fun b H3=>if b=true then te ([some x]++fr) H3 K' else G H3)
  (done:∀ys H,P xs.length ys→ys.length≤xs.length→ao H1 H→H D=some (.lst ys)→Q H):LC 1 fr (ck 0) tc te (Itt K a) D H1 Q:=by
 have at':∀i,i < xs.length→xs[i]?=some (xs.getD i .non):=fun i hi=>by
  rw [List.getD_eq_getElem?_getD,List.getElem?_eq_getElem hi]
  rfl
 exact Cp xs.length (fun i=>xs.getD i .non) P hn hD (fun i H hi hs=>⟨xs,_,hs.tup hS,at' i hi⟩)
  (fun i H x H' hi hs hy=>⟨hy.1,Option.some.inj ((hy.2 xs (hs.tup hS)).symm.trans (at' i hi))⟩) (fun H hs=>⟨xs,hs.tup hS,Nat.le_refl _⟩) h0
  (fun i ys H G K' hi hp hl hs hG hK=>step i _ ys H G K' (at' i hi) hp hl hs hG hK) done
theorem t5 {lo:Int} {n:Nat} {fr:St} {tc:TT} {te:TE} {D:Addr} {H1:Hp} {Q:Hp→Prop} (P:Nat→List V→Prop) (hn:n < sizeLine) (hD:H1 D=none) (h0:P 0 [])
  (step:∀(i:Nat) ys H (G:Hp→Prop) (K':V→Hp→Prop),i < n→P i ys→ys.length≤i→ao H1 H→(∀H3,ao H H3→P (i+1) ys→G H3)→(∀y H4,ao H H4→P (i+1) (ys++[y])→K' y H4)→tc ([some (.int (lo+i))]++fr) H fun b H3=>if b=true then te ([some (.int (lo+i))]++fr) H3 K' else G H3)
  (done:∀ys H,P n ys→ys.length≤n→ao H1 H→H D=some (.lst ys)→Q H):LC 1 fr (ck 0) tc te (Itr lo n) D H1 Q:=
 Cp n (fun i=>.int (lo+i)) P hn hD (fun i H hi _=>hi) (fun i H x H' hi hs hy=>hy) (fun H hs=>Nat.le_refl _) h0 step done
end L2
namespace L2
open PySem PySem.Spec PyProof.Rows
section
variable {X:Cx} {x:Str} {pos:Pos}
theorem Me {a:Addr} (hm:X.mg x=some (.ref a)) (hg:Gl X x:=by rfl) (hd:(x==("__debug__":Str))=false:=by decide+kernel):PE X (.Name x pos) (tC (.ref a)):=Nc hg hm rfl hd
theorem pe_gty {T:String} (hm:X.mg x=none) (hv:bootBuiltins x=some (.type T)) (hg:Gl X x:=by rfl) (hn:x≠"__name__":=by decide+kernel) (hd:(x==("__debug__":Str))=false:=by decide+kernel):PE X (.Name x pos) (tC (.ty T)):=Nr hg hm hv rfl hn hd
end
theorem cm:bootBuiltins "len"=some (.builtin "len"):=by decide+kernel
theorem Ls:bootBuiltins "all"=some (.builtin "all"):=by decide+kernel
theorem ak:bootBuiltins "isinstance"=some (.builtin "isinstance"):=by decide+kernel
theorem iw:bootBuiltins "bool"=some (.type "bool"):=by decide+kernel
theorem ko:bootBuiltins "int"=some (.type "int"):=by decide+kernel
theorem ky:bootBuiltins "str"=some (.type "str"):=by decide+kernel
theorem mj:bootBuiltins "list"=some (.type "list"):=by decide+kernel
theorem bq:bootBuiltins "tuple"=some (.type "tuple"):=by decide+kernel
theorem b_dict:bootBuiltins "dict"=some (.type "dict"):=by decide+kernel
theorem Ab:bootBuiltins "sorted"=some (.builtin "sorted"):=by decide+kernel
end L2
namespace L2
open PySem PySem.Spec PyProof.Rows
theorem str_eq {a b:Str}:a=b↔a.cps.toList=b.cps.toList:=by
 constructor
 ·intro e;rw [e]
 ·intro e
  cases a;cases b
  exact congrArg Str.mk (Array.toList_inj.mp e)
theorem cxOf_K {CX:CXT} {P:Program} {w:World} {K:PySem.W.Frag} {mg:Str→Option Value} {base:Heap} {N:List Str} {qual:Str} {scope:Scope} {f:Addr} {cd:Value} {A:Around} {outer:List Env} {s:Shared} {H:Hp} {E:XK}:(qp CX P w K mg base N qual scope f cd A outer s H E).K=K:=rfl
theorem nox_K {X:Cx}:X.nox.K=X.K:=rfl
end L2
namespace L2
open PySem PySem.Spec PyProof.Rows
inductive zj:List Expr→List V→Prop where
 | nil:zj [] []
 | str {x:Str} {j:Nat} {pos:Pos} {es:List Expr} {vs:List V} (h:zj es vs):zj (.Constant (.str x) j pos::es) (.str x::vs)
 | int {i:Int} {j:Nat} {pos:Pos} {es:List Expr} {vs:List V} (h:zj es vs):zj (.Constant (.int i) j pos::es) (.int i::vs)
def tVals (vs:List V):TA:=fun _ H Q=>Q vs H
theorem Ih {X:Cx} {es:List Expr} {vs:List V} (h:zj es vs):PA X es (tVals vs):=by
 induction h with
 | nil=>exact J1
 | str _ ih=>exact ye K4 ih
 | int _ ih=>exact ye Lc ih
end L2
namespace L2
open PySem PySem.Spec PyProof.Rows
def ForW (g:TG) (tb:TS) (D:Ends) (J:It) (σ:St) (H1:Hp):Prop:=∃W:Nat→Nat→St→Hp→Prop,(∃m,W 0 m σ H1)∧∀i m σ H,W i m σ H→
 (J.stop i H∧D.nx σ H)∨(J.go i H∧∃N:St→Hp→Prop,(∀σ' H',N σ' H'→∃m',m' < m∧W (i+1) m' σ' H')∧∀x H',J.yld i H x H'→g x σ H' fun σ2 H2=>tb { D with nx:=N,ct:=N,bk:=D.nx } σ2 H2)
theorem L6 (wi:TI) (g:TG) (tb:TS) (D:Ends) (σ:St) (H:Hp):tFor wi g tb D σ H=wi σ H fun J H1=>ForW g tb D J σ H1:=rfl
section
variable {K:PySem.W.Frag} {a:Addr} {xs:List V} {g:TG} {tb:TS} {D:Ends} {σ:St} {H:Hp}
theorem fc (Pv:Nat→St→Hp→Prop) (h0:Pv 0 σ H) (hl:∀i σ H,i≤xs.length→Pv i σ H→SqL K H a xs)
  (hs:∀i x σ H,xs[i]?=some x→Pv i σ H→g x σ H fun σ2 H2=>tb { D with nx:=Pv (i+1),ct:=Pv (i+1),bk:=D.nx } σ2 H2) (hd:∀σ H,Pv xs.length σ H→D.nx σ H):ForW g tb D (Itl K a) σ H:=Jy Pv h0 hl hs hd
theorem m6 (Pv:Nat→St→Hp→Prop) (h0:Pv 0 σ H) (hl:∀i σ H,i≤xs.length→Pv i σ H→SqT K H a xs)
  (hs:∀i x σ H,xs[i]?=some x→Pv i σ H→g x σ H fun σ2 H2=>tb { D with nx:=Pv (i+1),ct:=Pv (i+1),bk:=D.nx } σ2 H2) (hd:∀σ H,Pv xs.length σ H→D.nx σ H):ForW g tb D (Itt K a) σ H:=Nn Pv h0 hl hs hd
theorem fj {lo:Int} {n:Nat} (Pv:Nat→St→Hp→Prop) (h0:Pv 0 σ H)
  (hs:∀i σ H,i < n→Pv i σ H→g (.int (lo+i)) σ H fun σ2 H2=>tb { D with nx:=Pv (i+1),ct:=Pv (i+1),bk:=D.nx } σ2 H2) (hd:∀σ H,Pv n σ H→D.nx σ H):ForW g tb D (Itr lo n) σ H:=Fz Pv h0 hs hd
end
end L2
namespace L2
open PySem PySem.Spec PyProof.Rows Builtin Builtin.Str
def ModD (w:World) (K:PySem.W.Frag) (a:Addr) (kvs:List (Key×V)):Prop:=
 (a==sysModules)=false∧∀(P:Program) (h:Heap),K.In h→∃vs,KV kvs vs∧h.DictOf (bh P w) a vs
abbrev Ef:=Int×Str×Tok×Int×Tok
noncomputable def siE (e:Ef):DictEntry:=⟨e.1,.str e.2.1 e.2.2.1,.int e.2.2.2.1 e.2.2.2.2⟩
theorem Ae (P:Program) (w:World):∀es:List Ef,Pairs (bh P w) (es.map siE) (es.map fun e=>((Sum.inr e.2.1:Key),Value.int e.2.2.2.1 e.2.2.2.2))
 | []=>.nil
 | e::r=>.cons (jz P w e.2.1 e.2.2.1) rfl (Ae P w r)
theorem si_kv:∀es:List Ef,KV (es.map fun e=>((Sum.inr e.2.1:Key),V.int e.2.2.2.1)) (es.map fun e=>((Sum.inr e.2.1:Key),Value.int e.2.2.2.1 e.2.2.2.2))
 | []=>.nil
 | e::r=>.cons ⟨rfl,⟨_,rfl⟩⟩ (si_kv r)
theorem N0 {w:World} {K:PySem.W.Frag} {a:Addr} {ep:Nat} (es:List Ef) (hl:K.lookup a=some ⟨.type "dict",none,.dict (es.map siE).toArray ep,#[]⟩) (ha:(a==sysModules)=false)
  (hh:∀e∈es,e.1=hashStr w e.2.1) (nd:(es.map fun e=>(Sum.inr e.2.1:Key)).Nodup):ModD w K a (es.map fun e=>(Sum.inr e.2.1,V.int e.2.2.2.1)):=by
 refine ⟨ha,fun P h hk=>⟨_,si_kv es,_,_,ep,hk a _ hl,⟨rfl,rfl,rfl⟩,rfl,fun e he=>?_,by simpa using Ae P w es,?_⟩⟩
 ·have he':e∈es.map siE:=List.mem_toArray.mp he
  obtain ⟨r,hr,rfl⟩:=List.mem_map.mp he'
  exact ⟨Sum.inr r.2.1,jz P w r.2.1 r.2.2.1,hh r hr⟩
 ·rw [List.map_map]
  exact nd
section
variable {X:Cx} {a:Addr} {kvs:List (Key×V)}
def Ic (kvs:List (Key×V)) (ty tx:TE):TE:=fun σ H Q=>ty σ H fun y H2=>tx σ H2 fun z H3=>∃k,y=kV k∧Q ((cz kvs k).getD z) H3
theorem Km {o e f:Expr} {apos cpos:Pos} {ty tx:TE} (ho:PE X o (tC (.ref a))) (md:ModD X.w X.K a kvs) (he:PE X e ty) (hf:PE X f tx) (m:M2 X o "get" apos e f cpos):PE X (.Call (.Attribute o "get" apos) [e,f] [] cpos) (Ic kvs ty tx):=by
 intro pins s σ H Q I h
 refine wpAny_Call_method m.base m.few m.line PySem.F.plainAttrs_dict PySem.F.slot_dict_get PySem.F.type_dict_get (thn (ho pins s σ H (fun x H1=>x=.ref a∧H1=H) I ⟨rfl,rfl⟩) fun u s1 ⟨x,H1,I1,rx,ex,eH⟩=>?_)
 subst ex eH
 obtain rfl:u=Value.ref a:=rx
 obtain ⟨vs,rel,dd⟩:=md.2 X.prog _ I1.kIn
 refine ⟨dd.typeIs,fun b q=>?_,?_⟩
 ·cases q
  obtain ⟨ob,_,_,h1,h2,_⟩:=dd
  exact ⟨ob,h1,h2.2.1⟩
 rw [m.trees]
 refine Calls.callWith_builtin rfl (Calls.evalArgs_plain (Calls.spliced_cons (thn (he pins s1 σ H1 _ I1 h) fun iv s2 ⟨y,H2,I2,ry,q2⟩=>
  Calls.spliced_cons (thn (hf pins s2 σ H2 _ I2 q2) fun fv s3 ⟨z,H3,I3,rz,k,ek,q3⟩=>Calls.spliced_nil ?_))))
 subst ek
 obtain ⟨vs',rel',dd'⟩:=md.2 X.prog _ I3.kIn
 refine call_meetsIn PySem.F.slot_dict_get dd'.typeIs PySem.F.entry_dict_get (PySem.F.args_dict_get_3 _ _ _) (meets_dict_get_default (bh X.prog X.w) a (qd ry) md.1 fv) ⟨_,dd'.mapOf,⟨_,H3,I3.tok _,?_,q3⟩⟩
 exact (rel'.val k).getD rz
noncomputable def Ez:V→Str
 | .str z=>z
 | .int i=>(toString i:String)
 | _=>Str.empty
def wordV:V→Prop
 | .str _=>True
 | .int i=>i.natAbs.log2 < 1920
 | _=>False
theorem x6:gj X (.type "str") (fun xs H Q=>∃x,xs=[x]∧wordV x∧Q (.str (Ez x)) H):=by
 intro pins s σ H xs us Q I r h
 obtain ⟨x,rfl,hw,q⟩:=h
 obtain ⟨u,rfl,rx⟩:=vals1 r
 cases x with
 | str z=>obtain ⟨t,rfl⟩:=rx;exact PySem.P.str_of_str ⟨.str z,H,I,⟨t,rfl⟩,q⟩
 | int i=>obtain ⟨t,rfl⟩:=rx;exact PySem.P.str_of_int hw ⟨.str _,H,I.tok _,⟨_,rfl⟩,q⟩
 | _=>exact hw.elim
end
end L2
namespace L2
open PySem PySem.Spec PyProof.Rows
section
variable {X:Cx} (K:PySem.W.Frag) (hK:X.K=K)
include hK
theorem Ii:IxR X (rIxL K):=by subst hK;exact Fo
theorem qw:IxR X (rIxT K):=by subst hK;exact Jq
theorem la:OpR X (compareOp .In) (rIn K false):=by subst hK;exact xb
end
end L2
namespace L2
open PySem PySem.Spec PyProof.Rows
def tMid (t u:TS):TS:=fun D σ H=>∃M:St→Hp→Prop,t { D with nx:=M } σ H∧∀σ' H',M σ' H'→u D σ' H'
theorem d4 {t u:TS} {D:Ends} {σ:St} {H:Hp} (M:St→Hp→Prop) (h1:t { D with nx:=M } σ H) (h2:∀σ' H',M σ' H'→u D σ' H'):tMid t u D σ H:=⟨M,h1,h2⟩
section
variable {X:Cx} {st:Stmt} {rest:List Stmt} {t u:TS}
theorem Mx (h1:PS X st t) (h2:PSs X rest u):PSs X (st::rest) (tMid t u):=by
 intro pins s σ H D I h
 obtain ⟨M,h,hM⟩:=h
 refine wpAny_execs_cons (thn (h1 pins s σ H { D with nx:=M } I h) fun f s1 q=>?_)
 cases f with
 | next=>
  obtain ⟨σ',H',I',q⟩:=q
  exact h2 pins s1 σ' H' D I' (hM σ' H' q)
 | ret v=>exact q
 | brk=>exact q
 | cont=>exact q
end
theorem Of {K:PySem.W.Frag} {z:Str} {H:Hp}:tyV K "str" (.str z) H=True:=eq_true rfl
theorem av {K:PySem.W.Frag} {a:Addr} {xs:List V} {H:Hp} (h:H a=some (.lst xs)):tyV K "list" (.ref a) H:=.inl ⟨rfl,xs,SqL.of h⟩
theorem br {K:PySem.W.Frag} {H:Hp} {t:Addr} {xs:List V} {i:Int} {v:V} {Q:VK} (h:H t=some (.tup xs)) (hv:atI xs i=some v) (q:Q v H):rIxT K (.ref t) (.int i) H Q:=⟨t,xs,i,v,rfl,rfl,SqT.of h,hv,q⟩
theorem aq {K:PySem.W.Frag} {H:Hp} {t:Addr} {xs:List V} {i:Int} {v:V} {Q:VK} (h:H t=some (.lst xs)) (hv:atI xs i=some v) (q:Q v H):rIxL K (.ref t) (.int i) H Q:=⟨t,xs,i,v,rfl,rfl,SqL.of h,hv,q⟩
theorem Nm {H:Hp} {a b:Addr} {xs ys:List V} {Q:VK} (h1:H a=some (.lst xs)) (h2:H b=some (.lst ys)) (hz:xs.length+ys.length≤sizeLine) (q:∀p,H p=none→Q (.ref p) (upd H p (.lst (xs++ys)))):rCat (.ref a) (.ref b) H Q:=⟨a,b,xs,ys,rfl,rfl,h1,h2,hz,q⟩
theorem Mq {H:Hp} {a:Addr} {x:V} {k:Int} {Q:VK} (h1:H a=some (.lst [x])) (h0:0≤k) (hk:k≤1000000) (q:∀p,H p=none→Q (.ref p) (upd H p (.lst (List.replicate k.toNat x)))):rRep (.ref a) (.int k) H Q:=by
 have sz:=sizeLine_eq
 refine ⟨a,k,[x],rfl,rfl,h1,by omega,by omega,by show 1*k.toNat≤sizeLine;omega,fun p hp=>?_⟩
 have e:(List.replicate k.toNat [x]).flatten=List.replicate k.toNat x:=by
  induction k.toNat with
  | zero=>rfl
  | succ n ih=>rw [List.replicate_succ,List.flatten_cons,ih];rfl
 rw [e]
 exact q p hp
theorem bj {K:PySem.W.Frag} {H:Hp} {l:Addr} {xs:List V} {y:V} {Q:VK} (h:H l=some (.lst xs)) (hz:xs.length < sizeLine) (q:Q .non (upd H l (.lst (xs++[y])))):tyV K "list" (.ref l) H∧oa (.ref l) [y] H Q:=
 ⟨av h,l,xs,y,rfl,rfl,h,hz,q⟩
end L2
namespace HT
open PySem PySem.Spec PyProof.Rows L2
section
variable {prog:Program} {w:World} {A:Around} {E:Value→Shared→Prop} {s:Shared}
theorem Kz {t b:Addr} {vs ws:List Value} {Q:Value→Shared→Prop} (ht:IsTup s.heap t vs.toArray) (hb:IsTup s.heap b ws.toArray) (hv:vs=[]) (h1:Q (.ref b) s):wpAny (model prog w) A (binaryOp .Add (.ref t) (.ref b)) Q E s:=by
 obtain ⟨⟨cls,dd,data,sl⟩,ho,hc,n,hd⟩:=id ht
 obtain ⟨⟨cls2,dd2,data2,sl2⟩,ho2,hc2,n2,hd2⟩:=id hb
 simp only at hc hd hc2 hd2
 subst hc hd hc2 hd2
 exact concat_meets ⟨_,ho,rfl⟩ ⟨_,ho2,rfl⟩ noFill_tuple_add seq_tuple_add PySem.F.slot_tuple_add PySem.F.entry_tuple_add (PySem.F.args_tuple_add_2 _ _)
  (tuple_addW0 t b vs.toArray ws.toArray n n2 dd dd2 sl sl2 (by simp [hv])) ⟨ho,ho2,h1⟩
theorem km {t sl:Addr} {items:Array Value} {vl vu:Value} {lo hi:Option Int} {Q:Value→Shared→Prop} (ht:IsTup s.heap t items) (hs:s.heap.IsSliceOf sl vl vu .none) (pl:IsPart vl lo) (pu:IsPart vu hi)
  (hw:sIx items.size 0 lo=0∧sIx items.size items.size hi=items.size) (h:Q (.ref t) s) (hsz:items.size≤sizeLine):wpAny (model prog w) A (getItem (.ref t) (.ref sl)) Q E s:=by
 obtain ⟨os,hos,hcs,hds⟩:=id hs
 have hTs:s.TypeIs (.ref sl) "slice":=⟨os,hos,hcs⟩
 unfold getItem
 try with_reducible refine wpAny_holding ?_
 first | refine wpAny_bind (wpAny_pure ?_) | skip
 refine wpAny_bind (wpAny_sequenceKey ht.typeIs (by decide) ?_)
 refine wpAny_bind (wpAny_callSpecial?_slot (name:=Str.ofString "__getitem__") ht.typeIs PyProof.Rows.slot_tuple_getitem
  (wpAny_call_entry PyProof.Rows.slot_tuple_getitem ht.typeIs entry_tuple_getitem ?_ (args_tuple_getitem _ _)))
 show wpAny _ _ (Builtin.Tuple.tupleItemsOf (.ref t) >>=_) _ _ s
 refine wpAny_bind (tupleItemsOf_ ht ?_)
 refine wpAny_bind (wpAny_typeOf hTs ?_)
 rw [if_pos (by decide)]
 refine wpAny_bind (ig hs pl pu ?_)
 have hyes:((((sIx items.size 0 lo:Nat):Int)==0&&(1:Int)==1&&(sIx items.size items.size hi - sIx items.size 0 lo)==items.size)=true):=by
  rw [hw.1,hw.2]
  simp
 show wpAny _ _ (if (((sIx items.size 0 lo:Nat):Int)==0&&(1:Int)==1&&(sIx items.size items.size hi - sIx items.size 0 lo)==items.size)=true then _ else _) _ _ s
 rw [if_pos hyes]
 refine wpAny_bind ?_
 show wpAny _ _ (typeOf (.ref t) >>=fun v=>pure (v==.type "tuple")) _ _ s
 refine wpAny_bind (wpAny_typeOf ht.typeIs (wpAny_pure ?_))
 rw [if_pos (by decide)]
 refine wpAny_bind (wpAny_rule ?_)
 first
  | exact wpAny_bind (wpAny_pure (wpAny_pure ⟨_,rfl,wpAny_pure h⟩))
  | exact wpAny_pure ⟨_,rfl,wpAny_pure h⟩
  | exact wpAny_bind (wpAny_pure ⟨_,rfl,wpAny_pure h⟩)
end
end HT
namespace L2
open PySem PySem.Spec PyProof.Rows
section
variable {X:Cx}
def rCatU:R2:=fun x y H Q=>∃a b xs ys,x=.ref a∧y=.ref b∧H a=some (.tup xs)∧H b=some (.tup ys)∧xs.length+ys.length≤sizeLine∧∀p H',ao H H'→H' p=some (.tup (xs++ys))→Q (.ref p) H'
theorem E1:OpR X (binaryOp .Add) rCatU:=by
 intro pins s σ H x y v u Q I rx ry h
 obtain ⟨a,b,xs,ys,rfl,rfl,ha,hb,hz,q⟩:=h
 by_cases hx:xs=[]
 ·subst hx
  cases rx
  cases ry
  obtain ⟨its,r1,p1,_⟩:=I.tuple (SqT.of ha)
  obtain ⟨its2,r2,p2,_⟩:=I.tuple (SqT.of hb)
  exact HT.Kz p1 p2 (r1.q5.mpr rfl) ⟨.ref b,H,I,rfl,q b H (ao.refl H) hb⟩
 ·refine Ms pins s σ H _ _ v u Q I rx ry ⟨a,b,xs,ys,rfl,rfl,SqT.of ha,SqT.of hb,hx,hz,fun e=>?_,fun _ p hp=>q p _ (fun c o h=>by rw [af (ag h hp)];exact h) ae⟩
  subst e
  exact q a H (ao.refl H) (by rw [List.append_nil];exact ha)
theorem Bo {H:Hp} {a b:Addr} {xs ys:List V} {Q:VK} (ha:H a=some (.tup xs)) (hb:H b=some (.tup ys)) (hz:xs.length+ys.length≤sizeLine) (q:∀p H',ao H H'→H' p=some (.tup (xs++ys))→Q (.ref p) H'):rCatU (.ref a) (.ref b) H Q:=⟨a,b,xs,ys,rfl,rfl,ha,hb,hz,q⟩
def rSlU:V→Option Int→Option Int→Hp→VK→Prop:=fun x lo hi H Q=>∃a xs,x=.ref a∧H a=some (.tup xs)∧∀p H',ao H H'→H' p=some (.tup (i8 xs lo hi))→Q (.ref p) H'
theorem Kh {xs:List V} {lo hi:Option Int} (h:HT.sIx xs.length 0 lo=0∧HT.sIx xs.length xs.length hi=xs.length):i8 xs lo hi=xs:=by
 unfold i8
 rw [h.1,h.2,List.drop_zero,Nat.sub_zero,List.take_length]
theorem Mr:SlR X rSlU:=by
 intro pins s σ H x v vl vu lo hi sl Q I rx hs pl pu h
 obtain ⟨a,xs,rfl,ha,q⟩:=h
 by_cases hw:HT.sIx xs.length 0 lo=0∧HT.sIx xs.length xs.length hi=xs.length
 ·cases rx
  obtain ⟨its,r,ht,hz⟩:=I.tuple (SqT.of ha)
  have hlen:its.toArray.size=xs.length:=by rw [List.size_toArray];exact r.length.symm
  exact ⟨"tuple",_,PyProof.Rows.slot_tuple_getitem.lookup,ht.typeIs,HT.km ht hs pl pu (by rw [hlen];exact hw) ⟨.ref a,H,I,rfl,q a H (ao.refl H) (by rw [Kh hw];exact ha)⟩ (by rw [hlen];exact hz)⟩
 ·exact sl_tup pins s σ H _ v vl vu lo hi sl Q I rx hs pl pu ⟨a,xs,rfl,SqT.of ha,hw,fun p hp=>q p _ (fun c o h=>by rw [af (ag h hp)];exact h) ae⟩
theorem Mf {H:Hp} {a:Addr} {xs:List V} {lo hi:Option Int} {Q:VK} (ha:H a=some (.tup xs)) (q:∀p H',ao H H'→H' p=some (.tup (i8 xs lo hi))→Q (.ref p) H'):rSlU (.ref a) lo hi H Q:=⟨a,xs,rfl,ha,q⟩
theorem Md (k:Key):gw (kV k)=true:=by cases k <;> rfl
end
section
variable {X:Cx} {k:Nat} {ps:List Str} {sp:Sp} {x:Str} {p pos:Pos} {e:Expr} {es:List Expr} {t:TA}
def FnV (P:Program) (w:World) (K:PySem.W.Frag) (mg:Str→Option Value) (base:Heap) (k:Nat) (ps:List Str) (sp:Sp) (v:V):Prop:=
 ∃(f:Addr) (fd:FuncData),v=.ref f∧n8 P w K mg base CX0 k f fd ps sp∧Binds K fd ps []∧PySem.W.keepIn K (.ref f)=true
def tCallV (P:Program) (w:World) (K:PySem.W.Frag) (mg:Str→Option Value) (base:Heap) (k:Nat) (ps:List Str) (i:Nat) (t:TA):TE:=fun σ H Q=>∃v sp,σ[i]?=some (some v)∧FnV P w K mg base k ps sp v∧t σ H fun vs H1=>sp vs H1 Q E0
end
end L2
namespace L2
open PySem PySem.Spec PyProof.Rows
noncomputable def Itv (K:PySem.W.Frag) (a:Addr) (n:Nat):It:=
 ⟨fun i H=>i < n∧∃xs,SqL K H a xs∧xs.length=n,fun i H x H'=>H'=H∧∀xs,SqL K H a xs→xs[n - 1 - i]?=some x,fun i H=>i=n⟩
theorem Hy {P:Program} {w:World} {K:PySem.W.Frag} {tg:Expr} (a it:Addr) (n:Nat):Turn P w K tg (Itv K a n) [it] it (fun i h=>i≤n∧h.IsRevIter it a ((n:Int) - 1 - (i:Int))) where
 mem:=by simp
 obj:=fun i h st b hb=>by
  have e:b=it:=by simpa using hb
  subst e
  obtain ⟨_,o,e,c,d⟩:=st
  exact ⟨o,e,fun v z=>by rw [d] at z;cases z⟩
 keep:=fun i h h' st k=>⟨st.1,st.2.at fun o e=>k it (by simp) o e⟩
 item:=by
  intro X hP hw hK hc i pins s σ H E I hf st hg
  subst hP hw hK
  obtain ⟨hi,xs,hq,hn⟩:=hg
  have hx:xs[n - 1 - i]?=some (xs[n - 1 - i]'(by omega)):=List.getElem?_eq_getElem (by omega)
  obtain ⟨its,rv,p,hz⟩:=I.list hq
  obtain ⟨u,hu,ru⟩:=rv.get hx
  obtain ⟨f0,f1,f2,f3,f4,f5⟩:=hf it (by simp)
  have e:(n:Int) - 1 - (i:Int)=((n - 1 - i:Nat):Int):=by omega
  have st2:=st.2
  rw [e] at st2
  refine wpAny_pyNext_rev_item st2 p.isList (x:=u) (by simpa using hu) fun h' st' sb=>?_
  have e2:((n - 1 - i:Nat):Int) - 1=(n:Int) - 1 - ((i+1:Nat):Int):=by omega
  rw [e2] at st'
  have I1:Inv X pins σ H { s with heap:=h' }:=I.turned (t':=s.toks) (fun b o hb e=>(sb.2 b hb).trans e) f0 f1 f3 f4 f5
  obtain ⟨o,e,c,d⟩:=id st'
  exact ⟨u,rfl,wy (s:={ s with heap:=h' }) e c d (by decide) ⟨_,H,I1,ru,⟨rfl,fun ys hy=>by rw [I.zt hy hq];exact hx⟩,⟨hi,st'⟩,fun b hb=>(hf b hb).1⟩⟩
 done:=by
  intro X hP hw hK hc i pins s σ H E I hf st hg
  subst hP hw hK
  obtain ⟨f0,f1,f2,f3,f4,f5⟩:=hf it (by simp)
  have hg:i=n:=hg
  subst hg
  have e:(i:Int) - 1 - (i:Int)=-1:=by omega
  have st2:=st.2
  rw [e] at st2
  exact wpAny_pyNext_rev_end (I.ok.hd hc) st2 fun h' eb=>⟨rfl,I.turned (t':=s.toks) (fun b o hb e=>eb b o hb e) f0 f1 f3 f4 f5⟩
 self:=fun _ _ _ _ _ st h=>wpAny_pyIter_revIter st.2 h
def iRev (K:PySem.W.Frag) (ta:TA):TI:=fun σ H R=>ta σ H fun vs H1=>∃a xs,vs=[.ref a]∧SqL K H1 a xs∧R (Itv K a xs.length) H1
theorem Df:bootBuiltins "reversed"=some (.type "reversed"):=by decide+kernel
section
variable {X:Cx} {tg:Expr}
theorem pi_rev {a:Expr} {ta:TA} {p pos:Pos} (hg:Gl X "reversed") (hm:X.mg "reversed"=none) (ha:PA X [a] ta) (hs:starEach [a] X.env=[(false,eval a X.env)]:=by rfl):PI X tg (.Call (.Name "reversed" p) [a] [] pos) (iRev X.K ta):=by
 intro pins s σ H R I h
 refine Call_ (jw I hg hm Df (PyProof.Rows.callWith_type1 (thn (ha pos pins s σ H _ I h) fun us s1 ⟨vs,H1,I1,r1,q1⟩=>?_) hs rfl))
 obtain ⟨l,xs,e,hq,q⟩:=q1
 subst e
 cases r1 with
 | cons r rr=>
  cases rr
  cases (show _=Value.ref l from r)
  obtain ⟨its,rv,pl,hz⟩:=I1.list hq
  refine call_reversed_list pl.isList ?_
  have hlen:((its.toArray.size:Nat):Int) - 1=(xs.length:Int) - 1 - ((0:Nat):Int):=by
   rw [List.size_toArray,←rv.length]
   omega
  have st:Heap.IsRevIter (s1.heap.push (revObj l ((its.toArray.size:Int) - 1))) s1.heap.objs.size l ((xs.length:Int) - 1 - ((0:Nat):Int)):=by
   rw [←hlen]
   exact ⟨_,Heap.get?_push_size _ rfl,rfl,rfl⟩
  refine wpAny_pyIter_revIter st ?_
  refine ⟨s1.heap.objs.size,[s1.heap.objs.size],_,_,H1,rfl,I1.kept (t':=s1.toks) fun b o e=>Heap.get?_push_of_some _ e,Hy l _ xs.length,⟨Nat.zero_le _,st⟩,fun b hb=>?_,q⟩
  have e:b=s1.heap.objs.size:=by simpa using hb
  subst e
  exact I1.Bz (Nat.le_refl _) (I1.hok.fresh (Nat.le_refl _))
end
theorem Ln {K:PySem.W.Frag} {a:Addr} {xs:List V} {g:TG} {tb:TS} {D:Ends} {σ:St} {H:Hp} (Pv:Nat→St→Hp→Prop) (h0:Pv 0 σ H) (hl:∀i σ H,i≤xs.length→Pv i σ H→SqL K H a xs)
  (hs:∀i x σ H,i < xs.length→xs[xs.length - 1 - i]?=some x→Pv i σ H→g x σ H fun σ2 H2=>tb { D with nx:=Pv (i+1),ct:=Pv (i+1),bk:=D.nx } σ2 H2) (hd:∀σ H,Pv xs.length σ H→D.nx σ H):ForW g tb D (Itv K a xs.length) σ H:=by
 refine ⟨fun i m σ H=>m=xs.length - i∧i≤xs.length∧Pv i σ H,⟨xs.length,by simp,Nat.zero_le _,h0⟩,?_⟩
 rintro i m σ H ⟨rfl,hi,p⟩
 have q:=hl i σ H hi p
 by_cases hlt:i < xs.length
 ·refine .inr ⟨⟨hlt,xs,q,rfl⟩,Pv (i+1),fun σ' H' p'=>⟨xs.length - (i+1),by omega,rfl,hlt,p'⟩,fun x H' y=>?_⟩
  obtain ⟨e,y⟩:=y
  subst e
  exact hs i x σ _ hlt (y xs q) p
 ·have e:i=xs.length:=by omega
  subst e
  exact .inl ⟨rfl,hd σ H p⟩
end L2
namespace L2
open PySem PySem.Spec PyProof.Rows
section
variable {CX:CXT} {P:Program} {w:World} {K:PySem.W.Frag} {mg:Str→Option Value} {base:Heap} {N:List Str} {qual:Str} {scope:Scope} {f:Addr} {cd:Value} {A:Around} {outer:List Env} {s:Shared} {H:Hp} {E:XK}
theorem cxOf_P:(qp CX P w K mg base N qual scope f cd A outer s H E).prog=P:=rfl
theorem cxOf_w:(qp CX P w K mg base N qual scope f cd A outer s H E).w=w:=rfl
theorem M5:(qp CX P w K mg base N qual scope f cd A outer s H E).mg=mg:=rfl
theorem cxOf_b:(qp CX P w K mg base N qual scope f cd A outer s H E).base=base:=rfl
end
theorem za {K:PySem.W.Frag} {H:Hp} {l:Addr} {xs:List V} {y:V} {Q:VK} (h:H l=some (.lst (xs++[y]))) (q:Q y (upd H l (.lst xs))):tyV K "list" (.ref l) H∧rPop (.ref l) [] H Q:=
 ⟨av h,l,xs++[y],y,rfl,rfl,h,by rw [List.length_append,List.length_singleton,Nat.add_sub_cancel,List.getElem?_append_right (Nat.le_refl _),Nat.sub_self];rfl,by rw [List.dropLast_concat];exact q⟩
end L2
namespace L2.Srt
open PySem PySem.W PyProof.Rows
section
variable {cmp:Nat→Nat→(Bool→Shared→Prop)→Shared→Prop} {N:Nat} {r:Nat→Int} {s:Shared}
def Cmp (cmp:Nat→Nat→(Bool→Shared→Prop)→Shared→Prop) (N:Nat) (r:Nat→Int) (s:Shared):Prop:=∀i j C,i < N→j < N→C (decide (r i < r j)) s→cmp i j C s
noncomputable def R (r:Nat→Int) (p:Array Nat) (i:Nat):Int:=r (p.getD i 0)
end
end L2.Srt
namespace L2.Srt
open PySem PySem.W PyProof.Rows
noncomputable def cx (h:Heap) (a:Addr) (vs:List Value):Heap:=((h.update a (Obj.mapSeq fun _=>#[])).push (seqObj "tuple" vs.toArray 0)).push (seqObj "list" #[] 0)
section
variable {prog:Program} {w:World} {A:Around} {E:Value→Shared→Prop} {s:Shared} {r:Nat→Int}
theorem Bg {l:Addr} {vs:List Value} {Q:List Value→Shared→Prop} (hl:s.heap.IsTuple l vs.toArray)
  (h:Q vs { s with heap:=(s.heap.push (seqObj "list" #[] 0)).update s.heap.objs.size (Obj.mapSeq (·++vs.toArray)) }) (hsz:vs.length≤sizeLine):
  wpAny (model prog w) A (collect (.ref l)) Q E s:=by
 obtain ⟨o,ho,hc,n,hd⟩:=id hl
 unfold collect
 refine wpAny_bind (wpAny_runValue (codeAny_builtin entry_proto_collect' ?_))
 show wpAny _ _ (do again (.builtin "list.__iadd__" ⟨[←newList [],.ref l],[]⟩)) _ _ s
 refine wpAny_bind (wpAny_newList (wpAny_pure ⟨Code.quiet_builtin _ (by decide+kernel),codeAny_builtin entry_list_iadd' ?_⟩))
 show wpAny _ _ (Builtin.List.listExtendWith (.ref s.heap.objs.size) (.ref l) (.ref s.heap.objs.size)) _ _ { s with heap:=s.heap.push (seqObj "list" #[] 0) }
 unfold Builtin.List.listExtendWith
 have ho':(s.heap.push (seqObj "list" #[] 0)).get? l=some o:=Heap.get?_push_of_some _ ho
 refine wpAny_bind (wpAny_typeOf (T:="tuple") ⟨o,ho',hc⟩ ?_)
 have ht:(Value.type "tuple"==Value.type "tuple")=true:=by rfl
 rw [if_pos (by rw [ht];simp)]
 refine wpAny_bind (listItems_at ho' hd ?_)
 refine wpAny_bind (listItems_at (xs:=#[]) (n:=0) (Heap.get?_push_size _ rfl) rfl ?_)
 rw [if_neg (by simp)]
 refine wpAny_bind (listUpdate_at (xs:=#[]) (n:=0) (Heap.get?_push_size _ rfl) rfl ?_ (Nat.zero_le _) (by show (#[]++vs.toArray).size≤sizeLine+1;simp only [Array.size_append,List.size_toArray,List.length_nil];omega))
 refine wpAny_pure ?_
 show wpAny (model prog w) A (do
   let o ←load s.heap.objs.size
   match o.data with
   | .seq xs _=>pure xs.toList
   | _=>unsupported "internal:collect") Q E { s with heap:=(s.heap.push (seqObj "list" #[] 0)).update s.heap.objs.size (Obj.mapSeq (·++vs.toArray)) }
 refine wpAny_bind (wpAny_load (get?_update_seq (Heap.get?_push_size _ rfl) _) ?_)
 show wpAny _ _ (pure ((#[]:Array Value)++vs.toArray).toList) Q E _
 rw [show ((#[]:Array Value)++vs.toArray).toList=vs by simp]
 exact wpAny_pure h
noncomputable def dq (h:Heap) (vs:List Value):Heap:=((h.push (seqObj "list" #[] 0)).update h.objs.size (Obj.mapSeq (·++vs.toArray))).push (seqObj "list" vs.toArray 0)
end
end L2.Srt
namespace L2
open PySem PySem.Spec PyProof.Rows Srt
def Ords (P:Program) (w:World) (A:Around) (H:Hp) (ys:List V) (rk:Nat→Int):Prop:=
 ∀(s:Shared) (vs:List Value),HOk P w H s.heap→Vals ys vs→2≤vs.length→wpAny (model P w) A (keyKind' vs.toArray) (fun κ s'=>s'=s∧Cmp (PySem.W.kas_ask P w A κ vs) vs.length rk s) (fun _ _=>False) s
theorem Mg {h:Heap} {vs:List Value} {b:Addr} {o:Obj} (hb:h.get? b=some o):(cx (dq h vs) (h.objs.size+1) vs).get? b=some o:=by
 have hlt:b < h.objs.size:=Heap.lt_size hb
 have hsz:(dq h vs).objs.size=h.objs.size+2:=by unfold dq;rw [size_push',Heap.size_update,size_push']
 unfold cx
 rw [Heap.get?_push_ne _ _ _ (by rw [size_push',Heap.size_update,hsz];exact Nat.ne_of_lt (Nat.lt_of_lt_of_le hlt (by omega))),Heap.get?_push_ne _ _ _ (by rw [Heap.size_update,hsz];exact Nat.ne_of_lt (Nat.lt_of_lt_of_le hlt (by omega))),Heap.get?_update_ne _ _ _ _ (Nat.ne_of_lt (Nat.lt_of_lt_of_le hlt (by omega)))]
 unfold dq
 rw [Heap.get?_push_ne _ _ _ (by rw [Heap.size_update,size_push'];exact Nat.ne_of_lt (Nat.lt_of_lt_of_le hlt (by omega))),Heap.get?_update_ne _ _ _ _ (Nat.ne_of_lt hlt),Heap.get?_push_ne _ _ _ (Nat.ne_of_lt hlt)]
 exact hb
theorem pb {ys:List V} {vs:List Value} (r:Vals ys vs):∀(is:List Nat),(∀i∈is,i < ys.length)→Vals (is.map fun i=>ys.getD i .non) (is.map fun i=>vs.getD i Value.none)
 | [],_=>.nil
 | i::is,h=>by
  have hi:=h i List.mem_cons_self
  obtain ⟨u,hu,ru⟩:=r.get (List.getElem?_eq_getElem hi)
  refine .cons ?_ (pb r is fun j hj=>h j (List.mem_cons_of_mem _ hj))
  have e1:ys.getD i .non=ys[i]:=by rw [List.getD_eq_getElem?_getD,List.getElem?_eq_getElem hi];rfl
  have e2:vs.getD i Value.none=u:=by rw [List.getD_eq_getElem?_getD,hu];rfl
  show RelV (ys.getD i .non) (vs.getD i Value.none)
  rw [e1,e2]
  exact ru
section
variable {X:Cx}
end
end L2
namespace PySem.SeqAt
open PySem PySem.Spec PySem.Calls
def LtAt (A:Around) (s:Shared) (x y:Value) (b:Bool):Prop:=∀(prog:Program) (w:World) (E:Value→Shared→Prop) (Q:Value→Shared→Prop),Q (.bool b) s→wpAny (model prog w) A (richCompare .Lt x y) Q E s
section
variable {A:Around} {s:Shared}
theorem LtAt.str {x y:Str} {t u:Tok}:LtAt A s (.str x t) (.str y u) (decide (x.cps.toList < y.cps.toList)):=fun prog w E Q h=>by
 refine wpAny_richCompare_same (T:="str") (id:="str.__lt__") (op:=.Lt) (typeIs_str s x t) (typeIs_str s y u) PyProof.Rows.slot_str_lt (PyProof.Rows.call_str_lt ?_)
 exact ⟨(fun x=>nomatch x),h⟩
end
end PySem.SeqAt
namespace L2
open PySem PySem.Spec PyProof.Rows Srt
theorem xn {α:Type} {p q:α→Bool}:∀{l:List α},(∀x∈l,p x=true→q x=true)→(∃x∈l,q x=true∧p x=false)→l.countP p < l.countP q
 | [],_,h=>by obtain ⟨x,hx,_⟩:=h;cases hx
 | a::t,hm,h=>by
  rw [List.countP_cons,List.countP_cons]
  have mono:=List.countP_mono_left (l:=t) (fun x hx=>hm x (List.mem_cons_of_mem _ hx))
  have ha:=hm a List.mem_cons_self
  by_cases hw:q a=true∧p a=false
  ·rw [hw.1,hw.2]
   simp
   omega
  ·have:∃x∈t,q x=true∧p x=false:=by
    obtain ⟨x,hx,hq⟩:=h
    rcases List.mem_cons.mp hx with rfl | hx
    ·exact absurd hq hw
    ·exact ⟨x,hx,hq⟩
   have ih:=xn (fun x hx=>hm x (List.mem_cons_of_mem _ hx)) this
   cases hp:p a with
   | true=>rw [ha hp];simp;omega
   | false=>cases q a <;> simp <;> omega
noncomputable def rank (n:Nat) (lt:Nat→Nat→Bool) (i:Nat):Int:=(((List.range n).countP fun k=>lt k i:Nat):Int)
structure Ord (n:Nat) (lt:Nat→Nat→Bool):Prop where
 irr:∀i,i < n→lt i i=false
 tr:∀i j k,i < n→j < n→k < n→lt i j=true→lt j k=true→lt i k=true
 neg:∀i j k,i < n→j < n→k < n→lt i k=true→lt i j=true∨lt j k=true
theorem Ord.rank {n:Nat} {lt:Nat→Nat→Bool} (o:Ord n lt) {i j:Nat} (hi:i < n) (hj:j < n):decide (rank n lt i < rank n lt j)=lt i j:=by
 cases h:lt i j with
 | true=>
  apply decide_eq_true
  have:(List.range n).countP (fun k=>lt k i) < (List.range n).countP fun k=>lt k j:=xn (fun k hk e=>o.tr k i j (List.mem_range.mp hk) hi hj e h) ⟨i,List.mem_range.mpr hi,h,o.irr i hi⟩
  unfold L2.rank
  omega
 | false=>
  apply decide_eq_false
  have:(List.range n).countP (fun k=>lt k j)≤(List.range n).countP fun k=>lt k i:=List.countP_mono_left fun k hk e=>by
   rcases o.neg k i j (List.mem_range.mp hk) hi hj e with e | e
   ·exact e
   ·rw [h] at e;cases e
  unfold L2.rank
  omega
noncomputable def ltS (x y:Str):Bool:=decide (x.cps.toList < y.cps.toList)
theorem om (x:Str):ltS x x=false:=decide_eq_false (List.lt_irrefl _)
theorem sv {x y z:Str} (h1:ltS x y=true) (h2:ltS y z=true):ltS x z=true:=decide_eq_true (List.lt_trans (of_decide_eq_true h1) (of_decide_eq_true h2))
theorem y3 (x y:Str):ltS x y=true∨x=y∨ltS y x=true:=by
 by_cases h1:x.cps.toList < y.cps.toList
 ·exact .inl (decide_eq_true h1)
 by_cases h2:y.cps.toList < x.cps.toList
 ·exact .inr (.inr (decide_eq_true h2))
 exact .inr (.inl (str_eq.mpr (List.le_antisymm (List.not_lt.mp h2) (List.not_lt.mp h1))))
theorem Ew {x z:Str} (y:Str) (h:ltS x z=true):ltS x y=true∨ltS y z=true:=by
 rcases y3 x y with e | e | e
 ·exact .inl e
 ·subst e;exact .inr h
 ·exact .inr (sv e h)
section
variable {P:Program} {w:World} {A:Around} {H:Hp}
theorem Ie {zs:List Str}:Ords P w A H (zs.map V.str) (rank zs.length fun i j=>ltS (zs.getD i "") (zs.getD j "")):=by
 intro s vs hok r h2
 have hlen:=r.length
 rw [List.length_map] at hlen
 have at':∀i,i < zs.length→∃t,vs.getD i Value.none=.str (zs.getD i "") t:=fun i hi=>by
  obtain ⟨u,hu,t,rfl⟩:=r.get (i:=i) (x:=.str (zs.getD i "")) (by rw [List.getElem?_map,List.getElem?_eq_getElem hi,List.getD_eq_getElem?_getD,List.getElem?_eq_getElem hi];rfl)
  exact ⟨t,by rw [List.getD_eq_getElem?_getD,hu];rfl⟩
 have o:Ord zs.length fun i j=>ltS (zs.getD i "") (zs.getD j ""):=⟨fun _ _=>om _,fun _ _ _ _ _ _ a b=>sv a b,fun _ j _ _ _ _ a=>Ew _ a⟩
 have sa:StrsAre vs (vs.map strOf):=strsAre_map vs fun v hv=>by
  obtain ⟨i,hi,e⟩:=List.mem_iff_getElem.mp hv
  obtain ⟨t,et⟩:=at' i (by omega)
  rw [List.getD_eq_getElem?_getD,List.getElem?_eq_getElem hi] at et
  exact ⟨_,t,by rw [←e];exact et⟩
 obtain ⟨v₁,v₂,rest,rfl⟩:∃v₁ v₂ rest,vs=v₁::v₂::rest:=by
  match vs,h2 with
  | v₁::v₂::rest,_=>exact ⟨v₁,v₂,rest,rfl⟩
 rw [keyKind_strs sa]
 refine wpAny_pure ⟨rfl,fun i j C hi hj hC=>?_⟩
 obtain ⟨t,e1⟩:=at' i (by omega)
 obtain ⟨u,e2⟩:=at' j (by omega)
 show wpAny (model P w) A (keyLt' oneType' _ _) C _ s
 rw [e1,e2]
 refine PySem.W.kas_lt_str ?_
 rw [o.rank (by omega) (by omega)] at hC
 exact hC
end
end L2
namespace L2
open PySem PySem.Spec PyProof.Rows
def J4:V→List V→Hp→VK→Prop:=fun x xs H Q=>∃a y z o,x=.ref a∧xs=[y,z]∧jm H a y o∧Q (o.getD z) H
section
variable {X:Cx}
theorem Ik (hu:X.A.units+1 < cLine):MtR X "dict.get" J4:=by
 intro pins s σ H x xs v us Q I rx r h
 obtain ⟨a,y,z,o,rfl,rfl,g,q⟩:=h
 cases (show v=Value.ref a from rx)
 cases r with
 | cons ry rr=>
  cases rr with
  | cons rz rr=>
   cases rr
   rename_i u1 u2
   rcases g with ⟨kvs,k,e,ey,l⟩ | ⟨kvs,k,b,e,ey,eb,l⟩
   ·subst ey
    obtain ⟨_,hd,vs,rel,dd⟩:=xw I.hok e
    refine call_meetsIn PySem.F.slot_dict_get dd.typeIs PySem.F.entry_dict_get (PySem.F.args_dict_get_3 _ _ _) (meets_dict_get_default (bh X.prog X.w) a (qd ry) hd u2) ⟨_,dd.mapOf,⟨_,H,I.tok _,?_,q⟩⟩
    rw [l]
    exact mf.getD (rel.val k) rz
   ·subst ey
    cases (show u1=Value.ref b from ry)
    obtain ⟨_,hd,xs,rel,dd⟩:=xf I.hok e
    have rv:=rel.val k
    rw [←l] at rv
    refine wpAny_call_entry PySem.F.slot_dict_get dd.typeIs PySem.F.entry_dict_get ?_ (PySem.F.args_dict_get_3 _ _ _)
    show wpAny _ _ (dictGet a (.ref b) >>=_) _ _ s
    refine wpAny_bind (wpAny_dictGet_heap (tupleKind_room_in1 hu) (kz I.hok eb) dd ?_)
    have g:=mf.getD rv rz
    cases hf:atKey xs k with
    | some p=>
     rw [hf] at g
     exact wpAny_pure ⟨p.2,rfl,⟨_,H,I.tok _,g,q⟩⟩
    | none=>
     rw [hf] at g
     show wpAny _ _ (Builtin.Dict.missed a (.ref b) >>=_) _ _ _
     exact wpAny_bind (wpAny_missed_other hd (wpAny_pure ⟨u2,rfl,⟨_,H,I.tok _,g,q⟩⟩))
theorem Ho {K:PySem.W.Frag} {a:Addr} {kvs:List (List Key×V)} {H:Hp} (h:H a=some (.dT kvs)):tyV K "dict" (.ref a) H:=.inr (.inr (.inl ⟨rfl,.inr ⟨kvs,h⟩⟩))
end
end L2
namespace Pc
open PySem PySem.Spec L2 PyProof.Rows
theorem cy {α:Type} (l:List α) (k:Int) (h0:0≤k) (h1:k < (l.length:Int)):∃c,atI l k=some c∧c∈l:=by
 have hk:k.toNat < l.length:=by omega
 have e:k=((k.toNat:Nat):Int):=by omega
 have q:atI l ((k.toNat:Nat):Int)=some l[k.toNat]:=ax (List.getElem?_eq_getElem hk)
 rw [←e] at q
 exact ⟨_,q,List.getElem_mem hk⟩
end Pc
namespace Pc
noncomputable def eat:Nat→List Nat→Option Nat
 | 0,_=>some 0
 | _+1,[]=>none
 | l+1,a::r=>(eat (l+a) r).map (·+1)
noncomputable def pend:Nat→List Nat→Option Nat
 | l,[]=>some l
 | 0,_::_=>none
 | l+1,a::r=>pend (l+a) r
noncomputable def starts:Nat→List Nat→List Nat
 | _,[]=>[]
 | p,a::r=>p::(starts (p+1) r).drop a
theorem j4 (r:List Nat):eat 0 r=some 0:=by cases r <;> rfl
theorem dn (l a:Nat) (r:List Nat):eat (l+1) (a::r)=(eat (l+a) r).map (·+1):=rfl
theorem nz:∀(xs ys:List Nat) (l:Nat),pend l (xs++ys)=(pend l xs).bind fun m=>pend m ys
 | [],ys,l=>by cases l <;> rfl
 | a::r,ys,0=>rfl
 | a::r,ys,l+1=>by
  show pend (l+a) (r++ys)=(pend (l+a) r).bind _
  exact nz r ys (l+a)
theorem Bb (l a:Nat) (h:0 < l):pend l [a]=some (l - 1+a):=by
 cases l with
 | zero=>omega
 | succ l=>show some (l+a)=some (l+1 - 1+a);rw [Nat.add_sub_cancel]
theorem xk (xs:List Nat) (a l d:Nat) (h:pend l xs=some d) (hd:0 < d):pend l (xs++[a])=some (d - 1+a):=by
 rw [nz,h]
 exact Bb d a hd
theorem uj:∀(r:List Nat) (l n:Nat),eat l r=some n→n≤r.length
 | r,0,n,h=>by rw [j4] at h;cases h;exact Nat.zero_le _
 | [],l+1,n,h=>by cases h
 | a::r,l+1,n,h=>by
  rw [dn] at h
  obtain ⟨m,hm,rfl⟩:=Option.map_eq_some_iff.mp h
  have:=uj r (l+a) m hm
  rw [List.length_cons]
  omega
theorem qe:∀(r:List Nat) (l:Nat),pend l r=some 0→eat l r=some r.length
 | [],l,h=>by
  cases h
  rfl
 | a::r,0,h=>by cases h
 | a::r,l+1,h=>by
  rw [dn,qe r (l+a) h]
  rfl
theorem xm (r:List Nat) (l:Nat) (h:pend l r=some 0) (p:Nat):∃m,pend m (r.drop p)=some 0:=by
 have e:r=r.take p++r.drop p:=(List.take_append_drop p r).symm
 rw [e,nz] at h
 cases q:pend l (r.take p) with
 | none=>rw [q] at h;cases h
 | some m=>rw [q] at h;exact ⟨m,h⟩
theorem K3 {m:Nat} {r:List Nat} (h:pend m r=some 0) (hr:r≠[]):0 < m:=by
 cases r with
 | nil=>exact absurd rfl hr
 | cons a r=>
  cases m with
  | zero=>cases h
  | succ m=>omega
theorem vy:∀(r:List Nat) (l m:Nat),pend (l+m) r=some 0→∃n,eat l r=some n∧pend m (r.drop n)=some 0
 | r,0,m,h=>⟨0,j4 r,by rw [Nat.zero_add] at h;exact h⟩
 | [],l+1,m,h=>by
  have:l+1+m=0:=Option.some.inj h
  omega
 | a::r,l+1,m,h=>by
  have e:l+1+m=(l+m)+1:=by omega
  rw [e] at h
  have h':pend (l+a+m) r=some 0:=by
   have e2:l+a+m=l+m+a:=by omega
   rw [e2]
   exact h
  obtain ⟨n,h1,h2⟩:=vy r (l+a) m h'
  exact ⟨n+1,by rw [dn,h1];rfl,h2⟩
theorem qg:∀(r:List Nat) (l n p:Nat),eat l r=some n→(starts p r).drop l=starts (p+n) (r.drop n)
 | r,0,n,p,h=>by rw [j4] at h;cases h;rfl
 | [],l+1,n,p,h=>by cases h
 | a::r,l+1,n,p,h=>by
  rw [dn] at h
  obtain ⟨m,hm,rfl⟩:=Option.map_eq_some_iff.mp h
  show ((starts (p+1) r).drop a).drop l=starts (p+(m+1)) (r.drop m)
  rw [List.drop_drop,Nat.add_comm a l,qg r (l+a) m (p+1) hm]
  congr 1
  omega
theorem vm:∀(r:List Nat) (l p:Nat),pend l r=some 0→(starts p r).length=l
 | [],l,p,h=>by
  have:l=0:=Option.some.inj h
  rw [this]
  rfl
 | a::r,0,p,h=>by cases h
 | a::r,l+1,p,h=>by
  have ih:=vm r (l+a) (p+1) h
  show ((starts (p+1) r).drop a).length+1=l+1
  rw [List.length_drop,ih]
  omega
theorem qh (r:List Nat) (p:Nat) (h:r≠[]):∃t,starts p r=p::t:=by
 cases r with
 | nil=>exact absurd rfl h
 | cons a r=>exact ⟨_,rfl⟩
theorem Gz (ar:List Nat) (p:Nat) (h:p < ar.length):starts p (ar.drop p)=p::(starts (p+1) (ar.drop (p+1))).drop (ar.getD p 0):=by
 rw [List.drop_eq_getElem_cons h]
 have e:ar.getD p 0=ar[p]:=by rw [List.getD_eq_getElem?_getD,List.getElem?_eq_getElem h];rfl
 rw [e]
 rfl
end Pc
namespace Pc
end Pc
namespace Pc
open PySem PySem.Spec L2 PyProof.Rows
noncomputable abbrev parts:List (Key×V):=[(Sum.inr "add",.int 2),(Sum.inr "sub",.int 2),(Sum.inr "mul",.int 2),(Sum.inr "neg",.int 1)]
noncomputable def arS (z:Str):Nat:=if z="add" then 2 else if z="sub" then 2 else if z="mul" then 2 else if z="neg" then 1 else 0
noncomputable def arV:V→Nat
 | .str z=>arS z
 | _=>0
def isW (v:V):Prop:=∃k:Key,v=kV k
theorem Hn (k:Key):(cz parts k).getD (.int 0)=.int (arV (kV k)):=by
 cases k with
 | inl i=>rfl
 | inr z=>
  show (cz parts (Sum.inr z)).getD (.int 0)=.int (arS z)
  unfold arS
  by_cases h1:z="add"
  ·subst h1;rw [b0 rfl,if_pos rfl];rfl
  rw [bz (fun e=>h1 (Sum.inr.inj e).symm),if_neg h1]
  by_cases h2:z="sub"
  ·subst h2;rw [b0 rfl,if_pos rfl];rfl
  rw [bz (fun e=>h2 (Sum.inr.inj e).symm),if_neg h2]
  by_cases h3:z="mul"
  ·subst h3;rw [b0 rfl,if_pos rfl];rfl
  rw [bz (fun e=>h3 (Sum.inr.inj e).symm),if_neg h3]
  by_cases h4:z="neg"
  ·subst h4;rw [b0 rfl,if_pos rfl];rfl
  rw [bz (fun e=>h4 (Sum.inr.inj e).symm),if_neg h4]
  rfl
theorem arS_le (z:Str):arS z≤2:=by
 unfold arS
 repeat' split
 all_goals decide
theorem ug (v:V):arV v≤2:=by cases v <;> first | exact arS_le _ | exact Nat.zero_le _
theorem oz {z:Str} (h:0 < arS z):z="add"∨z="sub"∨z="mul"∨z="neg":=by
 unfold arS at h
 by_cases h1:z="add"
 ·exact .inl h1
 by_cases h2:z="sub"
 ·exact .inr (.inl h2)
 by_cases h3:z="mul"
 ·exact .inr (.inr (.inl h3))
 by_cases h4:z="neg"
 ·exact .inr (.inr (.inr h4))
 rw [if_neg h1,if_neg h2,if_neg h3,if_neg h4] at h
 exact absurd h (by decide)
def isTerm (ws:List V):Prop:=pend 1 (ws.map arV)=some 0
def tj:Sp:=fun vs H Q _=>∃v,vs=[v]∧isW v∧Q (.int (arV v)) H
end Pc
namespace Pc
open PySem PySem.Spec L2 PyProof.Rows
def fk (H:Hp) (d b:Addr) (ns:List Int) (n:Nat):Prop:=H d=some (.lst [.ref b,.int (n:Int)])∧H b=some (.lst (List.map V.int ns))
def au (d:Addr) (H H':Hp):Prop:=∀b o,b≠d→H b=some o→H' b=some o
theorem au.refl (d:Addr) (H:Hp):au d H H:=fun _ _ _ h=>h
theorem au.trans {d:Addr} {H H1 H2:Hp} (a:au d H H1) (b:au d H1 H2):au d H H2:=fun c o n h=>b c o n (a c o n h)
theorem au.of {d:Addr} {H H':Hp} (a:ao H H'):au d H H':=fun b o _ h=>a b o h
theorem au.upd {d p:Addr} {H H':Hp} (a:au d H H') (hp:H p=none) (o:HO):au d H (L2.upd H' p o):=fun b u n h=>by rw [af (ag h hp)];exact a b u n h
theorem fk.ne {H:Hp} {d b:Addr} {ns:List Int} {n:Nat} (h:fk H d b ns n):b≠d:=ee h.2 h.1 (by intro e;cases ns <;> simp at e)
theorem fk.next {H H':Hp} {d b:Addr} {ns:List Int} {n k:Nat} (h:fk H d b ns n) (s:au d H H') (e:H' d=some (.lst [.ref b,.int (k:Int)])):fk H' d b ns k:=⟨e,s b _ h.ne h.2⟩
theorem fk.same {H H':Hp} {d b:Addr} {ns:List Int} {n:Nat} (h:fk H d b ns n) (s:ao H H'):fk H' d b ns n:=⟨s _ _ h.1,s _ _ h.2⟩
noncomputable def qi (H:Hp) (p:Addr):Nat:=match H p with | some (.lst ws)=>ws.length | _=>0
theorem nq {H:Hp} {p:Addr} {ws:List V} (h:H p=some (.lst ws)):qi H p=ws.length:=by unfold qi;rw [h]
def iz:Sp:=fun vs H Q _=>∃(d b:Addr) (ns:List Int) (n:Nat),vs=[.ref d]∧fk H d b ns n∧n≤100000∧∀(c:Int) (H':Hp),au d H H'→H' d=some (.lst [.ref b,.int ((n+1:Nat):Int)])→Q (.int c) H'
theorem kg {z:Str}:∀{xs:List V},inV (.str z) xs=true→.str z∈xs:=by
 intro xs h
 unfold inV at h
 obtain ⟨y,hy,e⟩:=List.any_eq_true.mp h
 cases y with
 | str x=>
  have e':x=z:=by simpa [eqV] using e
  exact e' ▸ hy
 | _=>simp [eqV] at e
theorem Bv (z:Str) (n:Nat):(nu z n).cps.toList=(List.replicate n z.cps.toList).flatten:=by unfold nu;simp
theorem zh:arS "neg"=1:=by decide+kernel
theorem au.free {d t:Addr} {H H':Hp} {o:HO} (s:au d H H') (hd:H' d=some o) (ht:H' t=none):H t=none:=by
 cases e:H t with
 | none=>rfl
 | some u=>
  by_cases h:t=d
  ·subst h;rw [hd] at ht;cases ht
  ·rw [s t u h e] at ht;cases ht
theorem Ir (ns:List Int) (lo hi:Option Int):∃ms:List Int,i8 (ns.map V.int) lo hi=ms.map V.int∧ms.length≤ns.length:=by
 refine ⟨_,by unfold i8;rw [←List.map_drop,←List.map_take],?_⟩
 rw [List.length_take,List.length_drop]
 omega
end Pc
namespace Pc
open PySem PySem.Spec L2 PyProof.Rows
theorem Ei:∀(r:List Nat) (l:Nat),pend l r=some 0→l≤r.length
 | [],l,h=>by
  have:l=0:=Option.some.inj h
  omega
 | a::r,0,h=>by cases h
 | a::r,l+1,h=>by
  have:=Ei r (l+a) h
  rw [List.length_cons]
  omega
theorem zk:∀(r:List Nat) (j k:Nat),eat (j+k) r=(eat j r).bind fun s=>(eat k (r.drop s)).map (s+·)
 | r,0,k=>by
  rw [j4,Nat.zero_add]
  show eat k r=(eat k r).map (0+·)
  cases eat k r with
  | none=>rfl
  | some n=>show some n=some (0+n);rw [Nat.zero_add]
 | [],j+1,k=>by
  rw [show j+1+k=(j+k)+1 by omega]
  rfl
 | a::r,j+1,k=>by
  rw [show j+1+k=(j+k)+1 by omega,dn,dn,show j+k+a=j+a+k by omega,zk r (j+a) k]
  cases eat (j+a) r with
  | none=>rfl
  | some s=>
   show ((eat k (r.drop s)).map (s+·)).map (·+1)=(eat k (r.drop s)).map (s+1+·)
   cases eat k (r.drop s) with
   | none=>rfl
   | some n=>show some (s+n+1)=some (s+1+n);congr 1;omega
theorem yo:∀(r:List Nat) (k n:Nat),eat (k+1) r=some n→0 < n
 | [],k,n,h=>by cases h
 | a::r,k,n,h=>by
  rw [dn] at h
  obtain ⟨m,hm,rfl⟩:=Option.map_eq_some_iff.mp h
  omega
theorem uz (ws:List V) (p:Nat) (h:p≤ws.length):i8 ws none (some (p:Int))=ws.take p:=by
 unfold i8
 rw [HT.Dt,HT.Bn,Nat.min_eq_left h]
 rfl
theorem Jw (ws:List V) (p n:Nat) (h:p+n≤ws.length):i8 ws (some ((p:Int)+(n:Int))) none=ws.drop (p+n):=by
 unfold i8
 rw [show (p:Int)+(n:Int)=((p+n:Nat):Int) by omega,HT.Dt,HT.Bn,Nat.min_eq_left h]
 apply List.take_of_length_le
 rw [List.length_drop]
 omega
theorem Cb {ws:List V} (h:isTerm ws) {p:Nat} {x:V} (hx:ws[p]?=some x):∃m,pend (m+arV x) ((ws.drop (p+1)).map arV)=some 0:=by
 have hp:p < ws.length:=(List.getElem?_eq_some_iff.mp hx).1
 have hd:ws.drop p=x::ws.drop (p+1):=by
  rw [List.drop_eq_getElem_cons hp]
  congr 1
  rw [List.getElem?_eq_getElem hp] at hx
  exact Option.some.inj hx
 obtain ⟨m,hm⟩:=xm _ 1 h p
 rw [←List.map_drop,hd] at hm
 cases m with
 | zero=>cases hm
 | succ m'=>exact ⟨m',hm⟩
theorem Ar {x:V} (hx:isW x):(inV x [V.str "add",V.str "sub",V.str "mul"]=true)↔arV x=2:=by
 obtain ⟨k,rfl⟩:=hx
 cases k with
 | inl i=>
  constructor
  ·intro h
   exact absurd h (by simp [inV,eqV,kV])
  ·intro h
   exact absurd h (by show ¬(0=2);decide)
 | inr z=>
  show (inV (.str z) _=true)↔arS z=2
  constructor
  ·intro h
   have:=kg h
   simp only [List.mem_cons,List.not_mem_nil,or_false,V.str.injEq] at this
   rcases this with rfl | rfl | rfl <;> decide+kernel
  ·intro h
   rcases oz (z:=z) (by omega) with rfl | rfl | rfl | rfl
   ·decide+kernel
   ·decide+kernel
   ·decide+kernel
   ·rw [zh] at h
    exact absurd h (by decide)
noncomputable def intAt (σ:L2.St) (i:Nat):Nat:=match σ[i]? with | some (some (.int x))=>x.toNat | _=>0
def vk (K:PySem.W.Frag):Sp:=fun vs H Q _=>∃(t:Addr) (ws:List V) (p n:Nat),vs=[.ref t,.int (p:Int)]∧SqT K H t ws∧(∀v∈ws,isW v)∧ws.length≤1000∧eat 1 ((ws.drop p).map arV)=some n∧∀H',ao H H'→Q (.int ((p:Int)+(n:Int))) H'
end Pc
namespace L2.Srt
open PySem PySem.W PyProof.Rows PySem.Spec
section
variable {prog:Program} {w:World} {A:Around} {E:Value→Shared→Prop} {s:Shared}
end
end L2.Srt
namespace L2
open PySem PySem.Spec PyProof.Rows Srt
section
variable {X:Cx}
theorem Cm {h:Heap} {vs:List Value} {out:Array Value} {b:Addr} {o:Obj} (hb:h.get? b=some o):(sortedHeap (h.push (seqObj "list" vs.toArray 0)) h.objs.size vs out).get? b=some o:=by
 have hlt:b < h.objs.size:=Heap.lt_size hb
 unfold sortedHeap
 have sz:(h.push (seqObj "list" vs.toArray 0)).objs.size=h.objs.size+1:=size_push' _ _
 rw [Heap.get?_update_ne _ _ _ _ (Nat.ne_of_lt hlt),Heap.get?_push_ne _ _ _ (by rw [size_push',Heap.size_update,sz];exact Nat.ne_of_lt (Nat.lt_of_lt_of_le hlt (by omega))),Heap.get?_push_ne _ _ _ (by rw [Heap.size_update,sz];exact Nat.ne_of_lt (Nat.lt_of_lt_of_le hlt (by omega))),Heap.get?_update_ne _ _ _ _ (Nat.ne_of_lt hlt),Heap.get?_push_ne _ _ _ (Nat.ne_of_lt hlt)]
 exact hb
theorem Fv {h:Heap} {vs:List Value} {out:Array Value}:∃e,(sortedHeap (h.push (seqObj "list" vs.toArray 0)) h.objs.size vs out).get? h.objs.size=some (seqObj "list" out e):=by
 obtain ⟨e1,h1⟩:∃e,((h.push (seqObj "list" vs.toArray 0)).update h.objs.size (Obj.mapSeq fun _=>#[])).get? h.objs.size=some (seqObj "list" #[] e):=⟨_,get?_update_seq (Heap.get?_push_size _ rfl) _⟩
 have sz:(h.push (seqObj "list" vs.toArray 0)).objs.size=h.objs.size+1:=size_push' _ _
 unfold sortedHeap
 refine ⟨_,get?_update_seq (xs:=#[]) (n:=e1) ?_ _⟩
 rw [Heap.get?_push_ne _ _ _ (by rw [size_push',Heap.size_update,sz];exact Nat.ne_of_lt (by omega)),Heap.get?_push_ne _ _ _ (by rw [Heap.size_update,sz];exact Nat.ne_of_lt (by omega))]
 exact h1
end
end L2
namespace L2.RvR
open PySem PySem.Spec PySem.Calls PyProof.Rows
section
variable {prog:Program} {w:World} {A:Around} {E:Value→Shared→Prop} {s:Shared}
end
end L2.RvR
namespace L2
open PySem PySem.Spec PyProof.Rows RvR
noncomputable def Itd (n:Nat):It:=⟨fun i _=>i < n,fun i H x H'=>H'=H∧x=.int ((n:Int) - 1 - (i:Int)),fun i _=>n≤i⟩
theorem Gn {P:Program} {w:World} {K:PySem.W.Frag} {tg:Expr} (it:Addr) (n:Nat):Turn P w K tg (Itd n) [it] it (fun i h=>IsRangeIter h it ((n:Int) - 1+(i:Nat)*(-1)) ((n:Int) - (i:Nat)) (-1)) where
 mem:=by simp
 obj:=fun i h st b hb=>by
  have e:b=it:=by simpa using hb
  subst e
  exact ⟨_,st,fun v z=>nomatch (show Data.fields _=Data.cell v from z)⟩
 keep:=fun i h h' st k=>k it (by simp) _ st
 item:=by
  intro X hP hw hK hc i pins s σ H E I hf st hg
  subst hP hw hK
  obtain ⟨f0,f1,f2,f3,f4,f5⟩:=hf it (by simp)
  refine (Walks.range (prog:=X.prog) (w:=X.w) (I.ok.hd hc) it ((n:Int) - 1) (-1) n).item i s _ _ hg st fun v h' tk hv st' kk=>?_
  obtain ⟨t,rfl⟩:=hv
  have I1:Inv X pins σ H { s with heap:=h',toks:=tk }:=I.turned (fun b o hb e=>kk b o (by simpa using hb) e) f0 f1 f3 f4 f5
  refine ⟨_,rfl,wy (s:={ s with heap:=h',toks:=tk }) (n:="range_iterator") st' rfl rfl (by decide) ⟨.int ((n:Int) - 1 - (i:Int)),H,I1,⟨t,?_⟩,⟨rfl,rfl⟩,st',fun b hb=>(hf b hb).1⟩⟩
  congr 1
  omega
 done:=by
  intro X hP hw hK hc i pins s σ H E I hf st hg
  subst hP hw hK
  obtain ⟨f0,f1,f2,f3,f4,f5⟩:=hf it (by simp)
  have hg:n≤i:=hg
  exact wpAny_pyNext_range_end (I.ok.hd hc) st (by omega) fun h' eb=>⟨rfl,I.turned (t':=s.toks) (fun b o hb e=>eb b o hb e) f0 f1 f3 f4 f5⟩
 self:=fun _ _ _ _ _ st h=>wpAny_pyIter_rangeiter st h
section
variable {X:Cx} {tg:Expr}
end
end L2
namespace L2
open PySem PySem.Spec PyProof.Rows
end L2
namespace Pc
open PySem PySem.Spec L2 PyProof.Rows
noncomputable abbrev plV (q:Nat):V:=V.int ((q:Nat):Int)
end Pc
namespace L2
open PySem PySem.Spec PyProof.Rows
section
variable {X:Cx}
theorem zf:gj X (.builtin "isinstance") (fun xs H Q=>∃x p n m t b,xs=[x,.ref p]∧H p=some (.tup [.ty n,.ty m])∧oq X.K H x t∧PySem.W.kitAny X.K t [.type n,.type m]=some b∧Q (.bl b) H):=by
 intro pins s σ H xs us Q I r h
 obtain ⟨x,p,n,m,t,b,rfl,hp,ty,e,q⟩:=h
 obtain ⟨u,u2,rfl,rx,r2⟩:=vals2 r
 cases (show u2=Value.ref p from r2)
 obtain ⟨_,its,ri,o,h1,h2,k,h3,h4⟩:=(show bp X.prog X.w H s.heap p (.tup [.ty n,.ty m]) from I.hok p _ hp)
 obtain ⟨i1,i2,rfl,q1,q2⟩:=vals2 ri
 cases (show i1=Value.type n from q1)
 cases (show i2=Value.type m from q2)
 obtain ⟨cls,dd,data,sl⟩:=o
 cases (show cls=.type "tuple" from h2)
 cases (show data=.seq [Value.type n,Value.type m].toArray k from h3)
 have fin:∀tk:Nat,∃y H',Inv X pins σ H' { s with toks:=tk }∧RelV y (Value.bool b)∧Q y H':=fun tk=>⟨.bl b,H,I.tok tk,rfl,q⟩
 cases ty with
 | non=>cases (show u=Value.none from rx);exact PySem.W.kia_tup PySem.W.kitx_none I.kIn True.intro h1 e (fun z=>nomatch z) fin
 | bl y=>cases (show u=Value.bool y from rx);exact PySem.W.kia_tup PySem.W.kitx_bool I.kIn True.intro h1 e (fun z=>nomatch z) fin
 | int i=>obtain ⟨t,z⟩:=(show ∃t,u=Value.int i t from rx);cases z;exact PySem.W.kia_tup PySem.W.kitx_int I.kIn True.intro h1 e (fun z=>nomatch z) fin
 | str y=>obtain ⟨t,z⟩:=(show ∃t,u=Value.str y t from rx);cases z;exact PySem.W.kia_tup PySem.W.kitx_str I.kIn True.intro h1 e (fun z=>nomatch z) fin
 | flt y=>obtain ⟨t,z⟩:=(show ∃t,u=Value.float y t from rx);cases z;exact PySem.W.kia_tup PySem.W.kitx_float I.kIn True.intro h1 e (fun z=>nomatch z) fin
 | @lst a xs ea=>
  cases (show u=Value.ref a from rx)
  obtain ⟨_,_,n',_,g1⟩:=(show bp X.prog X.w H s.heap a (.lst xs) from I.hok a _ ea)
  exact PySem.W.kia_tup PySem.W.kitx_list I.kIn ⟨_,g1,rfl⟩ h1 e (fun z=>nomatch z) fin
 | @frz a ob xs ea=>
  cases (show u=Value.ref a from rx)
  obtain ⟨_,_,_,n',_,g1⟩:=(show bp X.prog X.w H s.heap a (.frz ob (.lst xs)) from I.hok a _ ea)
  exact PySem.W.kia_tup PySem.W.kitx_list I.kIn ⟨_,g1,rfl⟩ h1 e (fun z=>nomatch z) fin
 | @tup a xs ea=>
  cases (show u=Value.ref a from rx)
  obtain ⟨_,_,_,pp⟩:=(show bp X.prog X.w H s.heap a (.tup xs) from I.hok a _ ea)
  obtain ⟨o',g1,g2,_⟩:=pp
  exact PySem.W.kia_tup PySem.W.kitx_tuple I.kIn ⟨o',g1,g2⟩ h1 e (fun z=>nomatch z) fin
 | @dK a kvs ea=>
  cases (show u=Value.ref a from rx)
  obtain ⟨_,_,vs,_,pp⟩:=(show bp X.prog X.w H s.heap a (.dK kvs) from I.hok a _ ea)
  obtain ⟨o',es,ep,g1,g2,_⟩:=pp
  exact PySem.W.kia_tup PySem.W.kitx_dict I.kIn ⟨o',g1,g2.1⟩ h1 e (fun z=>nomatch z) fin
 | @dT a kvs ea=>
  cases (show u=Value.ref a from rx)
  obtain ⟨_,_,vs,_,pp⟩:=(show bp X.prog X.w H s.heap a (.dT kvs) from I.hok a _ ea)
  obtain ⟨o',es,ep,g1,g2,_⟩:=pp
  exact PySem.W.kia_tup PySem.W.kitx_dict I.kIn ⟨o',g1,g2.1⟩ h1 e (fun z=>nomatch z) fin
 | @ins a C' dx fs ea cl ha hn htk hm=>
  cases (show u=Value.ref a from rx)
  obtain ⟨mA,O,_⟩:=Fb I.hok ea
  obtain ⟨od,J,_⟩:=O.look
  exact PySem.W.kia_tup (PySem.W.kitx_own (cl.get _) cl.hd ha hn htk hm) I.kIn J h1 e (fun z=>nomatch z) fin
end
end L2
namespace Pc
open PySem PySem.Spec L2 PyProof.Rows
noncomputable def gq:V:=.str (Str.ofString "any")
noncomputable def gb:V:=.str (Str.ofString "var")
noncomputable def lN:Str:=Str.ofString "n"
noncomputable def lV:Str:=Str.ofString "v"
noncomputable def lH:Str:=Str.ofString "h"
noncomputable def lO:Str:=Str.ofString ""
noncomputable def cf (kinds:List Str) (v:V):Str:=if v=gq then lN else if v=gb then lV else if inV v (kinds.map V.str)=true then lH else lO
noncomputable def isStr:V→Bool
 | .str _=>true
 | _=>false
noncomputable def lies (l:Str) (v x:V):Bool:=if l=lH then true else if l=lN then !isStr x else if l=lV then isStr x&&decide (arV x=0) else decide (v=x)
def jd (K:PySem.W.Frag):Sp:=fun vs H Q _=>∃(v:V) (kt:Addr) (kinds:List Str),vs=[v,.ref kt]∧isW v∧SqT K H kt (kinds.map V.str)∧Q (.str (cf kinds v)) H
def ze:Sp:=fun vs H Q _=>∃(l:Str) (v x:V),vs=[.str l,v,x]∧isW v∧isW x∧Q (.bl (lies l v x)) H
theorem isW.sc {v:V} (h:isW v) (z:Str):scal v (.str z)=true:=by
 obtain ⟨k,rfl⟩:=h
 cases k <;> rfl
theorem isW.sc2 {v x:V} (h:isW v) (g:isW x):scal v x=true:=by
 obtain ⟨k,rfl⟩:=h
 obtain ⟨m,rfl⟩:=g
 cases k <;> cases m <;> rfl
theorem isW.flat {v:V} (h:isW v):gw v=true:=by
 obtain ⟨k,rfl⟩:=h
 exact Md k
structure Und where
 hs:List Nat
 ns:List V
 vs:List V
noncomputable def Und.put (u:Und) (l:Str) (p:Nat) (x:V):Und:=if l=lH then ⟨u.hs++[p],u.ns,u.vs⟩ else if l=lN then ⟨u.hs,u.ns++[x],u.vs⟩ else if l=lV then ⟨u.hs,u.ns,u.vs++[x]⟩ else u
noncomputable def endAt (ws:List V) (p:Nat):Nat:=p+(eat 1 ((ws.drop p).map arV)).getD 0
noncomputable def dk (kinds:List Str) (ws:List V):List V→Nat→Und→Option Und
 | [],_,u=>some u
 | v::r,p,u=>if lies (cf kinds v) v (ws.getD p .non)=true then dk kinds ws r (if cf kinds v=lH then endAt ws p else p+1) (u.put (cf kinds v) p (ws.getD p .non)) else none
def Jf (H:Hp) (t:Addr) (u:Und):Prop:=∃t1 t2 t3:Addr,H t=some (.tup [.ref t1,.ref t2,.ref t3])∧H t1=some (.tup (u.hs.map plV))∧H t2=some (.tup u.ns)∧H t3=some (.tup u.vs)
structure UndOk (u:Und):Prop where
 n:(∀v∈u.ns,isW v)∧u.ns.length≤1000
 v:(∀v∈u.vs,isW v)∧u.vs.length≤1000
 h:u.hs.length≤1000
def Co (u:Und):Prop:=(∀v∈u.ns,isW v)∧∀v∈u.vs,isW v
theorem Co.put {u:Und} (h:Co u) {x:V} (hx:isW x) (l:Str) (p:Nat):Co (u.put l p x):=by
 unfold Und.put
 have ap:∀{L:List V},(∀v∈L,isW v)→∀v∈L++[x],isW v:=fun {L} hL v hv=>by
  rcases List.mem_append.mp hv with g | g
  ·exact hL v g
  ·rw [List.mem_singleton.mp g];exact hx
 by_cases c1:l=lH
 ·rw [if_pos c1];exact h
 rw [if_neg c1]
 by_cases c2:l=lN
 ·rw [if_pos c2];exact ⟨ap h.1,h.2⟩
 rw [if_neg c2]
 by_cases c3:l=lV
 ·rw [if_pos c3];exact ⟨h.1,ap h.2⟩
 rw [if_neg c3]
 exact h
def Kinds (kinds:List Str):Prop:=∀z∈kinds,arS z=0∧V.str z≠gq∧V.str z≠gb
def told (r:Option Und) (H':Hp) (Q:VK):Prop:=match r with
 | none=>Q .non H'
 | some u=>∀(t:Addr) (H2:Hp),ao H' H2→Jf H2 t u→UndOk u→Q (.ref t) H2
theorem xo {H':Hp} {Q:VK} (h:Q .non H'):told none H' Q:=h
def yc (K:PySem.W.Frag):Sp:=fun vs H Q _=>∃(st kt wt:Addr) (sh:List V) (kinds:List Str) (ws:List V) (p n:Nat),vs=[.ref st,.ref kt,.ref wt,.int (p:Int)]∧SqT K H st sh∧SqT K H kt (kinds.map V.str)∧SqT K H wt ws∧Kinds kinds∧(∀v∈sh,isW v)∧(∀v∈ws,isW v)∧isTerm sh∧eat 1 ((ws.drop p).map arV)=some n∧sh.length≤1000∧ws.length≤1000∧∀H',ao H H'→told (dk kinds ws sh p ⟨[],[],[]⟩) H' Q
theorem fm {kinds:List Str} {v:V} (hv:isW v):(v=gq∧cf kinds v=lN)∨(v=gb∧cf kinds v=lV)∨((∃z∈kinds,v=.str z)∧cf kinds v=lH)∨(cf kinds v=lO∧inV v (kinds.map V.str)=false):=by
 unfold cf
 by_cases h1:v=gq
 ·exact .inl ⟨h1,if_pos h1⟩
 by_cases h2:v=gb
 ·exact .inr (.inl ⟨h2,by rw [if_neg h1,if_pos h2]⟩)
 cases h3:inV v (kinds.map V.str) with
 | true=>
  refine .inr (.inr (.inl ⟨?_,by rw [if_neg h1,if_neg h2,if_pos rfl]⟩))
  obtain ⟨k,rfl⟩:=hv
  cases k with
  | inl i=>
   exfalso
   clear h1 h2
   induction kinds with
   | nil=>cases h3
   | cons z r ih=>exact ih h3
  | inr z=>
   obtain ⟨y,hy,e⟩:=List.mem_map.mp (kg h3)
   exact ⟨y,hy,e.symm⟩
 | false=>exact .inr (.inr (.inr ⟨by rw [if_neg h1,if_neg h2,if_neg (by decide)],rfl⟩))
theorem ve:arV gq=0:=by decide+kernel
theorem uy:arV gb=0:=by decide+kernel
theorem lets:lN≠lH∧lV≠lH∧lO≠lH∧lV≠lN∧lO≠lN∧lO≠lV:=by decide+kernel
theorem ij {kinds:List Str} {ws r:List V} {v x:V} {q d m:Nat} (hk:Kinds kinds) (hv:isW v) (hx:ws[q]?=some x) (hxw:isW x) (hp:pend (d+1) (arV v::r.map arV)=some 0) (he:eat (d+1) ((ws.drop q).map arV)=some m)
  (hl:lies (cf kinds v) v x=true):∃d' m',pend d' (r.map arV)=some 0∧eat d' ((ws.drop (if cf kinds v=lH then endAt ws q else q+1)).map arV)=some m':=by
 have hq:q < ws.length:=(List.getElem?_eq_some_iff.mp hx).1
 have ed:ws.drop q=x::ws.drop (q+1):=by
  rw [List.drop_eq_getElem_cons hq]
  congr 1
  rw [List.getElem?_eq_getElem hq] at hx
  exact Option.some.inj hx
 obtain ⟨e1,e2,e3,e4,e5,e6⟩:=lets
 have hp:pend (d+arV v) (r.map arV)=some 0:=hp
 have one:arV v=arV x→cf kinds v≠lH→∃d' m',pend d' (r.map arV)=some 0∧eat d' ((ws.drop (if cf kinds v=lH then endAt ws q else q+1)).map arV)=some m':=fun h n=>by
  rw [if_neg n]
  rw [ed,List.map_cons,dn] at he
  obtain ⟨k,hk',_⟩:=Option.map_eq_some_iff.mp he
  exact ⟨d+arV v,k,hp,by rw [h];exact hk'⟩
 unfold lies at hl
 rcases fm (kinds:=kinds) hv with ⟨rfl,h⟩ | ⟨rfl,h⟩ | ⟨⟨z,hz,rfl⟩,h⟩ | ⟨h,_⟩
 ·refine one ?_ (by rw [h];exact e1)
  rw [h,if_neg e1,if_pos rfl] at hl
  rw [ve]
  obtain ⟨k,rfl⟩:=hxw
  cases k with
  | inl i=>rfl
  | inr y=>cases hl
 ·refine one ?_ (by rw [h];exact e2)
  rw [h,if_neg e2,if_neg e4,if_pos rfl,Bool.and_eq_true] at hl
  rw [uy]
  exact (of_decide_eq_true hl.2).symm
 ·rw [if_pos h]
  have a0:arV (.str z)=0:=(hk z hz).1
  rw [a0] at hp
  rw [show d+1=1+d by omega,zk] at he
  cases h1:eat 1 ((ws.drop q).map arV) with
  | none=>rw [h1] at he;cases he
  | some n=>
   rw [h1] at he
   obtain ⟨k,hk',_⟩:=Option.map_eq_some_iff.mp (show (eat d (((ws.drop q).map arV).drop n)).map (n+·)=some m from he)
   refine ⟨d,k,hp,?_⟩
   unfold endAt
   rw [h1,show (some n).getD 0=n from rfl,←List.drop_drop]
   rw [←List.map_drop] at hk'
   exact hk'
 ·refine one ?_ (by rw [h];exact e3)
  rw [h,if_neg e3,if_neg e5,if_neg e6] at hl
  rw [of_decide_eq_true hl]
theorem mi {kinds:List Str} {ws:List V} {v:V} {r:List V} {p:Nat} {u:Und}:dk kinds ws (v::r) p u=if lies (cf kinds v) v (ws.getD p .non)=true then dk kinds ws r (if cf kinds v=lH then endAt ws p else p+1) (u.put (cf kinds v) p (ws.getD p .non)) else none:=rfl
def UAt (H:Hp) (u0 l1 l2 l3:Addr) (u:Und):Prop:=H u0=some (.dK [(Sum.inr lH,.ref l1),(Sum.inr lN,.ref l2),(Sum.inr lV,.ref l3)])∧H l1=some (.lst (u.hs.map plV))∧H l2=some (.lst u.ns)∧H l3=some (.lst u.vs)
theorem UAt.same {H H':Hp} {u0 l1 l2 l3:Addr} {u:Und} (h:UAt H u0 l1 l2 l3 u) (s:ao H H'):UAt H' u0 l1 l2 l3 u:=⟨s _ _ h.1,s _ _ h.2.1,s _ _ h.2.2.1,s _ _ h.2.2.2⟩
theorem Und.Ey (u:Und) (l:Str) (p:Nat) (x:V) {i:Nat} (h:u.hs.length≤i∧u.ns.length≤i∧u.vs.length≤i):(u.put l p x).hs.length≤i+1∧(u.put l p x).ns.length≤i+1∧(u.put l p x).vs.length≤i+1:=by
 obtain ⟨h1,h2,h3⟩:=h
 unfold Und.put
 by_cases c1:l=lH
 ·rw [if_pos c1]
  refine ⟨?_,by show u.ns.length≤_;omega,by show u.vs.length≤_;omega⟩
  show (u.hs++[p]).length≤_
  rw [List.length_append,List.length_singleton]
  omega
 rw [if_neg c1]
 by_cases c2:l=lN
 ·rw [if_pos c2]
  refine ⟨by show u.hs.length≤_;omega,?_,by show u.vs.length≤_;omega⟩
  show (u.ns++[x]).length≤_
  rw [List.length_append,List.length_singleton]
  omega
 rw [if_neg c2]
 by_cases c3:l=lV
 ·rw [if_pos c3]
  refine ⟨by show u.hs.length≤_;omega,by show u.ns.length≤_;omega,?_⟩
  show (u.vs++[x]).length≤_
  rw [List.length_append,List.length_singleton]
  omega
 rw [if_neg c3]
 exact ⟨by omega,by omega,by omega⟩
theorem UAt.get1 {H:Hp} {u0 l1 l2 l3:Addr} {u:Und} (h:UAt H u0 l1 l2 l3 u):jm H u0 (.str lH) (some (.ref l1)):=.inl ⟨_,.inr lH,.inl h.1,rfl,rfl⟩
theorem UAt.get2 {H:Hp} {u0 l1 l2 l3:Addr} {u:Und} (h:UAt H u0 l1 l2 l3 u):jm H u0 (.str lN) (some (.ref l2)):=.inl ⟨_,.inr lN,.inl h.1,rfl,rfl⟩
theorem UAt.get3 {H:Hp} {u0 l1 l2 l3:Addr} {u:Und} (h:UAt H u0 l1 l2 l3 u):jm H u0 (.str lV) (some (.ref l3)):=.inl ⟨_,.inr lV,.inl h.1,rfl,rfl⟩
theorem UAt.put1 {H:Hp} {u0 l1 l2 l3:Addr} {u:Und} (h:UAt H u0 l1 l2 l3 u) (n10:l1≠u0) (n21:l2≠l1) (n31:l3≠l1) (p:Nat) (x:V):UAt (upd H l1 (.lst (u.hs.map plV++[plV p]))) u0 l1 l2 l3 (u.put lH p x):=by
 unfold Und.put
 rw [if_pos rfl]
 refine ⟨by rw [af n10.symm];exact h.1,?_,by rw [af n21];exact h.2.2.1,by rw [af n31];exact h.2.2.2⟩
 rw [ae,List.map_append]
 rfl
theorem UAt.put2 {H:Hp} {u0 l1 l2 l3:Addr} {u:Und} (h:UAt H u0 l1 l2 l3 u) (n20:l2≠u0) (n21:l2≠l1) (n32:l3≠l2) (p:Nat) (x:V):UAt (upd H l2 (.lst (u.ns++[x]))) u0 l1 l2 l3 (u.put lN p x):=by
 unfold Und.put
 rw [if_neg lets.1,if_pos rfl]
 exact ⟨by rw [af n20.symm];exact h.1,by rw [af n21.symm];exact h.2.1,ae,by rw [af n32];exact h.2.2.2⟩
theorem UAt.put3 {H:Hp} {u0 l1 l2 l3:Addr} {u:Und} (h:UAt H u0 l1 l2 l3 u) (n30:l3≠u0) (n31:l3≠l1) (n32:l3≠l2) (p:Nat) (x:V):UAt (upd H l3 (.lst (u.vs++[x]))) u0 l1 l2 l3 (u.put lV p x):=by
 unfold Und.put
 rw [if_neg lets.2.1,if_neg lets.2.2.2.1,if_pos rfl]
 exact ⟨by rw [af n30.symm];exact h.1,by rw [af n31.symm];exact h.2.1,by rw [af n32.symm];exact h.2.2.1,ae⟩
theorem Und.put0 (u:Und) (p:Nat) (x:V):u.put lO p x=u:=by
 unfold Und.put
 rw [if_neg lets.2.2.1,if_neg lets.2.2.2.2.1,if_neg lets.2.2.2.2.2]
theorem Et {r:List Nat} {d m:Nat} (h:eat (d+1) r=some m):∃n,eat 1 r=some n:=by
 rw [show d+1=1+d by omega,zk] at h
 cases h1:eat 1 r with
 | none=>rw [h1] at h;cases h
 | some n=>exact ⟨n,rfl⟩
structure Rl where
 name:Str
 kind:Str
 price:Int
 shape:List V
def dz (H:Hp) (a:Addr) (r:Rl):Prop:=∃(sa da:Addr) (ds:List V),H a=some (.tup [.str r.name,.str r.kind,.int r.price,.ref sa,.ref da])∧H sa=some (.tup r.shape)∧H da=some (.tup ds)
theorem dz.same {H H':Hp} {a:Addr} {r:Rl} (h:dz H a r) (s:ao H H'):dz H' a r:=by
 obtain ⟨sa,da,ds,h1,h2,h3⟩:=h
 exact ⟨sa,da,ds,s _ _ h1,s _ _ h2,s _ _ h3⟩
def dc (H:Hp) (ra:List Addr) (rs:List Rl):Prop:=ra.length=rs.length∧∀(i:Nat) (r:Rl),rs[i]?=some r→∃a,ra[i]?=some a∧dz H a r
theorem dc.same {H H':Hp} {ra:List Addr} {rs:List Rl} (h:dc H ra rs) (s:ao H H'):dc H' ra rs:=⟨h.1,fun i r hr=>by
 obtain ⟨a,h1,h2⟩:=h.2 i r hr
 exact ⟨a,h1,h2.same s⟩⟩
def dg (H:Hp) (b:Addr) (kinds:List Str) (rs:List Rl):Prop:=∃(kt rt:Addr) (ra:List Addr),H b=some (.tup [.ref kt,.ref rt])∧H kt=some (.tup (kinds.map V.str))∧H rt=some (.tup (ra.map V.ref))∧dc H ra rs
theorem dg.same {H H':Hp} {b:Addr} {kinds:List Str} {rs:List Rl} (h:dg H b kinds rs) (s:ao H H'):dg H' b kinds rs:=by
 obtain ⟨kt,rt,ra,h1,h2,h3,h4⟩:=h
 exact ⟨kt,rt,ra,s _ _ h1,s _ _ h2,s _ _ h3,h4.same s⟩
structure Bk (kinds:List Str) (rs:List Rl):Prop where
 kd:Kinds kinds
 nd:(rs.map (·.name)).Nodup
 sh:∀r∈rs,(∀v∈r.shape,isW v)∧isTerm r.shape∧r.shape.length≤100
 len:rs.length≤100
 kn:kinds.Nodup
 kl:kinds.length≤60
 pr:∀r∈rs,1≤r.price
 rk:∀r∈rs,r.kind∈kinds
structure Tw (ws:List V):Prop where
 w:∀v∈ws,isW v∧v≠gq∧v≠gb
 one:isTerm ws
 len:ws.length≤1000
theorem Tw.eat {ws:List V} (h:Tw ws) {p:Nat} (hp:p < ws.length):∃n,eat 1 ((ws.drop p).map arV)=some n:=by
 obtain ⟨m,hm⟩:=xm _ 1 h.one p
 rw [←List.map_drop] at hm
 have hpos:=K3 hm (by intro e;have:=congrArg List.length e;rw [List.length_map,List.length_drop] at this;simp at this;omega)
 obtain ⟨d,rfl⟩:∃d,m=d+1:=⟨m - 1,by omega⟩
 exact Et (qe _ _ hm)
def y9 (K:PySem.W.Frag):Sp:=fun vs H Q _=>∃(t:Addr) (ws:List V),vs=[.ref t]∧SqT K H t ws∧(∀v∈ws,isW v)∧isTerm ws∧ws.length≤1000∧∀(l:Addr) (H':Hp),ao H H'→H l=none→H' l=some (.lst ((List.range ws.length).map fun q=>plV (endAt ws q)))→Q (.ref l) H'
def qx (K:PySem.W.Frag):Sp:=fun vs H Q _=>∃(st kt wt et:Addr) (sh:List V) (kinds:List Str) (ws:List V) (p:Nat),vs=[.ref kt,.ref st,.ref wt,.ref et,.int (p:Int)]∧SqT K H st sh∧SqT K H kt (kinds.map V.str)∧SqT K H wt ws∧H et=some (.lst ((List.range ws.length).map fun q=>plV (endAt ws q)))∧Kinds kinds∧(∀v∈sh,isW v)∧isTerm sh∧sh.length≤1000∧Tw ws∧p < ws.length∧∀H',ao H H'→told (dk kinds ws sh p ⟨[],[],[]⟩) H' Q
noncomputable def vo (ws:List V) (p:Nat):List Nat:=starts p ((ws.map arV).drop p)++[ws.length]
theorem Hz (ws:List V):vo ws ws.length=[ws.length]:=by
 unfold vo
 rw [List.drop_of_length_le (by rw [List.length_map];exact Nat.le_refl _)]
 rfl
theorem L4 {ws:List V} (h:isTerm ws) {p:Nat} {x:V} (hx:ws[p]?=some x):vo ws p=p::(vo ws (p+1)).drop (arV x)∧∃t,(vo ws (p+1)).drop (arV x)=endAt ws p::t:=by
 have hp:p < ws.length:=(List.getElem?_eq_some_iff.mp hx).1
 obtain ⟨m,hm⟩:=Cb h hx
 have Sl:=vm _ _ (p+1) hm
 rw [List.map_drop] at Sl hm
 have ea:(ws.map arV).getD p 0=arV x:=by rw [List.getD_eq_getElem?_getD,List.getElem?_map,hx];rfl
 have hst:=Gz (ws.map arV) p (by rw [List.length_map];exact hp)
 rw [ea] at hst
 obtain ⟨n,hn,_⟩:=vy _ (arV x) m (by rw [Nat.add_comm];exact hm)
 have hd:=qg _ _ _ (p+1) hn
 have hle:=uj _ _ _ hn
 have ed:(ws.drop p).map arV=arV x::(ws.map arV).drop (p+1):=by
  rw [List.drop_eq_getElem_cons hp,List.map_cons,List.map_drop]
  rw [List.getElem?_eq_getElem hp] at hx
  rw [Option.some.inj hx]
 have en:endAt ws p=p+1+n:=by
  unfold endAt
  rw [ed,dn,Nat.zero_add,hn]
  show p+(n+1)=_
  omega
 unfold vo
 rw [hst,List.drop_append_of_le_length (by omega),hd]
 refine ⟨rfl,?_⟩
 rw [List.drop_drop]
 rw [List.length_drop,List.length_map] at hle
 by_cases c:p+1+n < ws.length
 ·obtain ⟨t,ht⟩:=qh ((ws.map arV).drop (p+1+n)) (p+1+n) (by intro e;have:=congrArg List.length e;rw [List.length_drop,List.length_map] at this;simp at this;omega)
  exact ⟨t++[ws.length],by rw [ht,en];rfl⟩
 ·refine ⟨[],?_⟩
  rw [List.drop_of_length_le (by rw [List.length_map];omega),en,show p+1+n=ws.length by omega]
  rfl
theorem zd {x:V} (hx:isW x):(inV x [V.str "add",V.str "sub",V.str "mul",V.str "neg"]=true)↔0 < arV x:=by
 obtain ⟨k,rfl⟩:=hx
 cases k with
 | inl i=>
  constructor
  ·intro h
   exact absurd h (by simp [inV,eqV,kV])
  ·intro h
   exact absurd h (by show ¬(0 < 0);decide)
 | inr z=>
  show (inV (.str z) _=true)↔0 < arS z
  constructor
  ·intro h
   have:=kg h
   simp only [List.mem_cons,List.not_mem_nil,or_false,V.str.injEq] at this
   rcases this with rfl | rfl | rfl | rfl <;> decide+kernel
  ·intro h
   rcases oz (z:=z) h with rfl | rfl | rfl | rfl <;> decide+kernel
theorem G9 (ws:List V) {p:Nat} (hp:p≤ws.length):∃t,vo ws p=p::t:=by
 unfold vo
 by_cases c:p < ws.length
 ·obtain ⟨t,ht⟩:=qh ((ws.map arV).drop p) p (by intro e;have:=congrArg List.length e;rw [List.length_drop,List.length_map] at this;simp at this;omega)
  exact ⟨t++[ws.length],by rw [ht];rfl⟩
 ·refine ⟨[],?_⟩
  rw [List.drop_of_length_le (by rw [List.length_map];omega),show p=ws.length by omega]
  rfl
theorem Om {n p:Nat} (h:p < n):ixN n (p:Int)=some p:=by
 unfold ixN
 rw [if_pos (by omega),if_pos (by omega),Int.toNat_natCast]
theorem Hx {p:Nat} {x:V} {L:List V}:(List.replicate (p+1) (V.int 0)++L).set p x=List.replicate p (V.int 0)++x::L:=by
 rw [List.replicate_succ',List.append_assoc,List.set_append_right _ _ (by rw [List.length_replicate];exact Nat.le_refl _),List.length_replicate,Nat.sub_self]
 rfl
theorem wm:∀(r:List Nat) (p:Nat),(starts p r).length≤r.length
 | [],_=>Nat.le_refl _
 | a::r,p=>by
  show (p::(starts (p+1) r).drop a).length≤_
  have:=wm r (p+1)
  rw [List.length_cons,List.length_drop,List.length_cons]
  omega
theorem Ld (ws:List V) (p:Nat):(vo ws p).length≤ws.length+1:=by
 unfold vo
 have:=wm ((ws.map arV).drop p) p
 rw [List.length_drop,List.length_map] at this
 rw [List.length_append,List.length_singleton]
 omega
def lr (H:Hp) (u0 l1 l2 l3:Addr) (u:Und):Prop:=H u0=some (.lst [.ref l1,.ref l2,.ref l3])∧H l1=some (.lst (u.hs.map plV))∧H l2=some (.lst u.ns)∧H l3=some (.lst u.vs)
theorem lr.same {H H':Hp} {u0 l1 l2 l3:Addr} {u:Und} (h:lr H u0 l1 l2 l3 u) (s:ao H H'):lr H' u0 l1 l2 l3 u:=⟨s _ _ h.1,s _ _ h.2.1,s _ _ h.2.2.1,s _ _ h.2.2.2⟩
theorem lr.put1 {H:Hp} {u0 l1 l2 l3:Addr} {u:Und} (h:lr H u0 l1 l2 l3 u) (n10:u0≠l1) (n21:l2≠l1) (n31:l3≠l1) (p:Nat) (x:V):lr (upd H l1 (.lst (u.hs.map plV++[plV p]))) u0 l1 l2 l3 (u.put lH p x):=by
 unfold Und.put
 rw [if_pos rfl]
 refine ⟨by rw [af n10];exact h.1,?_,by rw [af n21];exact h.2.2.1,by rw [af n31];exact h.2.2.2⟩
 rw [ae,List.map_append]
 rfl
theorem lr.put2 {H:Hp} {u0 l1 l2 l3:Addr} {u:Und} (h:lr H u0 l1 l2 l3 u) (n20:u0≠l2) (n21:l2≠l1) (n32:l3≠l2) (p:Nat) (x:V):lr (upd H l2 (.lst (u.ns++[x]))) u0 l1 l2 l3 (u.put lN p x):=by
 unfold Und.put
 rw [if_neg lets.1,if_pos rfl]
 exact ⟨by rw [af n20];exact h.1,by rw [af n21.symm];exact h.2.1,ae,by rw [af n32];exact h.2.2.2⟩
theorem lr.put3 {H:Hp} {u0 l1 l2 l3:Addr} {u:Und} (h:lr H u0 l1 l2 l3 u) (n30:u0≠l3) (n31:l3≠l1) (n32:l3≠l2) (p:Nat) (x:V):lr (upd H l3 (.lst (u.vs++[x]))) u0 l1 l2 l3 (u.put lV p x):=by
 unfold Und.put
 rw [if_neg lets.2.1,if_neg lets.2.2.2.1,if_pos rfl]
 exact ⟨by rw [af n30];exact h.1,by rw [af n31.symm];exact h.2.1,by rw [af n32.symm];exact h.2.2.1,ae⟩
theorem Kinds.out {kinds:List Str} (h:Kinds kinds) {z:Str} (hz:V.str z=gq∨V.str z=gb):inV (.str z) (kinds.map V.str)=false:=by
 cases e:inV (.str z) (kinds.map V.str) with
 | false=>rfl
 | true=>
  obtain ⟨y,hy,e2⟩:=List.mem_map.mp (kg e)
  obtain ⟨_,h1,h2⟩:=h y hy
  rcases hz with hz | hz
  ·exact absurd (e2.trans hz) h1
  ·exact absurd (e2.trans hz) h2
theorem letH {kinds:List Str} {v:V} (h:cf kinds v=lH):inV v (kinds.map V.str)=true:=by
 unfold cf at h
 obtain ⟨b1,b2,b3,_,_,_⟩:=lets
 by_cases h1:v=gq
 ·rw [if_pos h1] at h;exact absurd h b1
 by_cases h2:v=gb
 ·rw [if_neg h1,if_pos h2] at h;exact absurd h b2
 rw [if_neg h1,if_neg h2] at h
 cases e:inV v (kinds.map V.str) with
 | true=>rfl
 | false=>rw [e,if_neg (by decide)] at h;exact absurd h b3
theorem letO {kinds:List Str} {v:V} (h:cf kinds v=lO):v≠gq∧v≠gb:=by
 obtain ⟨_,_,_,_,b5,b6⟩:=lets
 unfold cf at h
 refine ⟨fun e=>?_,fun e=>?_⟩
 ·rw [if_pos e] at h;exact b5 h.symm
 ·subst e
  by_cases h1:gb=gq
  ·rw [if_pos h1] at h;exact b5 h.symm
  ·rw [if_neg h1,if_pos rfl] at h;exact b6 h.symm
def Eb:Sp:=fun _ _ _ _=>False
def sq:Sp:=fun vs H Q _=>∃v:V,vs=[v,v]∧isW v∧∀H',ao H H'→Q (.bl true) H'
def qu:Sp:=fun vs H Q _=>∃(f d:Addr) (xs:List V),vs=[.ref f,.ref d]∧H f=some (.tup xs)∧H d=some (.tup xs)∧(∀v∈xs,isW v)∧xs.length≤1000∧∀H',ao H H'→Q (.bl true) H'
end Pc
namespace Pc
open PySem PySem.Spec L2 PyProof.Rows
def nmOk (z:Str):Prop:=arS z=0∧V.str z≠gq∧V.str z≠gb
def cw (H:Hp) (l:Addr) (zs:List Str):Prop:=H l=some (.lst (zs.map V.str))∧zs.length=60∧zs.Nodup∧∀z∈zs,nmOk z
theorem cw.same {H H':Hp} {l:Addr} {zs:List Str} (h:cw H l zs) (s:ao H H'):cw H' l zs:=⟨s _ _ h.1,h.2⟩
theorem cw.ku {H H':Hp} {d b l:Addr} {ns:List Int} {n:Nat} {zs:List Str} (h:cw H l zs) (hD:fk H d b ns n) (s:au d H H'):cw H' l zs:=by
 refine ⟨s _ _ (ee h.1 hD.1 ?_) h.1,h.2⟩
 intro e
 have:=h.2.1
 cases zs with
 | nil=>cases this
 | cons z r=>
  have e:HO.lst (V.str z::r.map V.str)=HO.lst _:=e
  cases e
def twW (v:V):Prop:=isW v∧v≠gq∧v≠gb
theorem twW_int (i:Int):twW (.int i):=⟨⟨Sum.inl i,rfl⟩,(fun e=>nomatch e),fun e=>nomatch e⟩
theorem twW_name {z:Str} (h:nmOk z):twW (.str z):=⟨⟨Sum.inr z,rfl⟩,h.2⟩
theorem twW_op {z:Str} (h:0 < arS z):twW (.str z):=⟨⟨Sum.inr z,rfl⟩,fun e=>by rw [V.str.inj (show V.str z=V.str (Str.ofString "any") from e)] at h;revert h;decide+kernel,fun e=>by rw [V.str.inj (show V.str z=V.str (Str.ofString "var") from e)] at h;revert h;decide+kernel⟩
theorem rh {z:Str} {xs:List V} (h:V.str z∈xs):inV (.str z) xs=true:=List.any_eq_true.mpr ⟨_,h,by simp [eqV]⟩
def sm:Sp:=fun vs H Q _=>∃(d nl b:Addr) (ns:List Int) (zs:List Str) (m n:Nat),vs=[.ref d,.ref nl,.int (m:Int)]∧fk H d b ns n∧cw H nl zs∧1≤m∧m≤120∧n≤50000∧∀(t:Addr) (n':Nat) (H':Hp) (ws:List V),au d H H'→H' d=some (.lst [.ref b,.int (n':Int)])→n'≤n+m→H t=none→H' t=some (.tup ws)→Tw ws→ws.length≤m→Q (.ref t) H'
structure jn (kinds:List Str) (sh:List V):Prop where
 w:∀v∈sh,isW v
 one:isTerm sh
 len:sh.length≤11
 few:(sh.filter fun v=>!inV v (kinds.map V.str)).length≤5
def rf:Sp:=fun vs H Q _=>∃(d kt b:Addr) (ns:List Int) (kinds:List Str) (n:Nat),vs=[.ref d,.ref kt]∧fk H d b ns n∧H kt=some (.tup (kinds.map V.str))∧Kinds kinds∧1≤kinds.length∧kinds.length≤20∧n≤50000∧∀(t:Addr) (n':Nat) (H':Hp) (sh:List V),au d H H'→H' d=some (.lst [.ref b,.int (n':Int)])→n'≤n+12→H t=none→H' t=some (.tup sh)→jn kinds sh→Q (.ref t) H'
def se (K:PySem.W.Frag):Sp:=fun vs H Q _=>∃(kt st:Addr) (kinds:List Str) (sh:List V),vs=[.ref kt,.ref st]∧H kt=some (.tup (kinds.map V.str))∧H st=some (.tup sh)∧Kinds kinds∧jn kinds sh∧∀(t:Addr) (ds:List V) (H':Hp),ao H H'→H' t=some (.tup ds)→Q (.ref t) H'
noncomputable def isT (z:Str):Bool:=decide (z.cps.toList.head?=some 116)
noncomputable def tc (zs:List Str):Nat:=(zs.filter isT).length
theorem oy (xs ys:List Str):tc (xs++ys)=tc xs+tc ys:=by
 unfold tc
 rw [List.filter_append,List.length_append]
noncomputable def bx (kinds:List Str) (vs:List V):Nat:=(vs.filter fun v=>!inV v (kinds.map V.str)).length
theorem ke (kinds:List Str) (xs ys:List V):bx kinds (xs++ys)=bx kinds xs+bx kinds ys:=by
 unfold bx
 rw [List.filter_append,List.length_append]
theorem vh {kinds:List Str} (hk:Kinds kinds):∀(xs:List V) (l m:Nat),(∀v∈xs,isW v)→pend l (xs.map arV)=some m→m≤l+bx kinds xs
 | [],l,m,_,h=>by
  have:l=m:=Option.some.inj h
  omega
 | v::r,0,m,_,h=>by cases h
 | v::r,l+1,m,hw,h=>by
  have h:pend (l+arV v) (r.map arV)=some m:=h
  have ih:=vh hk r _ _ (fun x hx=>hw x (List.mem_cons_of_mem _ hx)) h
  have e:bx kinds (v::r)=bx kinds [v]+bx kinds r:=ke kinds [v] r
  have a2:=ug v
  rcases Nat.eq_zero_or_pos (arV v) with h0 | h0
  ·omega
  ·have:bx kinds [v]=1:=by
    unfold bx
    rcases fm (kinds:=kinds) (hw v List.mem_cons_self) with ⟨rfl,_⟩ | ⟨rfl,_⟩ | ⟨⟨z,hz,rfl⟩,_⟩ | ⟨_,hno⟩
    ·rw [ve] at h0;cases h0
    ·rw [uy] at h0;cases h0
    ·have:=(hk z hz).1
     have h0:0 < arS z:=h0
     omega
    ·rw [List.filter_cons,hno]
     rfl
   omega
theorem Dj {n:Nat} (h:n≤11):(Ez (.int (n:Int))).length≤2∧wordV (.int (n:Int)):=by
 have a:∀n:Fin 12,(Ez (.int ((n.1:Nat):Int))).length≤2:=by decide+kernel
 have b:∀n:Fin 12,(((n.1:Nat):Int)).natAbs.log2 < 1920:=by decide+kernel
 exact ⟨a ⟨n,by omega⟩,b ⟨n,by omega⟩⟩
structure DI (kinds:List Str) (sh:List V) (p:Nat) (zs fs:List Str):Prop where
 pd:pend zs.length ((sh.drop p).map arV)=some 0
 bf:pend 1 ((sh.take p).map arV)=some zs.length
 three:fs.length+tc zs=3
 un:tc zs≤bx kinds (sh.drop p)
 zl:∀z∈zs,1≤z.length∧z.length≤100
 fl:∀z∈fs,isT z=true∧1≤z.length∧z.length≤100
theorem DI.start {kinds:List Str} {sh:List V} (h:jn kinds sh):DI kinds sh sh.length [] [Str.ofString "t3",Str.ofString "t2",Str.ofString "t1"]:=by
 refine ⟨by rw [List.drop_length];rfl,by rw [List.take_length];exact h.one,rfl,Nat.zero_le _,(fun _ h=>nomatch h),fun z hz=>?_⟩
 simp only [List.mem_cons,List.not_mem_nil,or_false] at hz
 rcases hz with rfl | rfl | rfl <;> decide+kernel
theorem DI.less {kinds:List Str} {sh:List V} {p:Nat} {zs fs:List Str} (h:DI kinds sh (p+1) zs fs) {v:V} (hv:sh[p]?=some v):arV v≤zs.length∧pend (zs.length - arV v+1) ((sh.drop p).map arV)=some 0∧pend 1 ((sh.take p).map arV)=some (zs.length - arV v+1)∧sh.drop p=v::sh.drop (p+1):=by
 have hp:p < sh.length:=(List.getElem?_eq_some_iff.mp hv).1
 have ed:sh.drop p=v::sh.drop (p+1):=by
  rw [List.drop_eq_getElem_cons hp]
  congr 1
  rw [List.getElem?_eq_getElem hp] at hv
  exact Option.some.inj hv
 have et:sh.take (p+1)=sh.take p++[v]:=by rw [List.take_add_one,hv];rfl
 have bf:=h.bf
 rw [et,List.map_append,nz] at bf
 cases hq:pend 1 ((sh.take p).map arV) with
 | none=>rw [hq] at bf;cases bf
 | some m=>
  rw [hq] at bf
  have bf:pend m [arV v]=some zs.length:=bf
  cases m with
  | zero=>cases bf
  | succ m=>
   rw [Bb _ _ (Nat.succ_pos _)] at bf
   have e:=Option.some.inj bf
   have hm:m+1=zs.length - arV v+1:=by omega
   refine ⟨by omega,?_,by rw [hm],ed⟩
   rw [ed,List.map_cons]
   show pend (zs.length - arV v+arV v) ((sh.drop (p+1)).map arV)=some 0
   rw [show zs.length - arV v+arV v=zs.length by omega]
   exact h.pd
theorem DI.hole {kinds:List Str} {sh:List V} {p:Nat} {zs fs:List Str} (h:DI kinds sh (p+1) zs fs) {v:V} (hv:sh[p]?=some v) (a0:arV v=0) {z:Str} (hz:isT z=false) (hl:1≤z.length∧z.length≤100):DI kinds sh p (zs++[z]) fs:=by
 obtain ⟨_,h2,h3,ed⟩:=h.less hv
 rw [a0,Nat.sub_zero] at h2 h3
 have tz:tc (zs++[z])=tc zs:=by
  rw [oy]
  unfold tc
  rw [List.filter_cons,hz]
  rfl
 refine ⟨by rw [List.length_append];exact h2,by rw [List.length_append];exact h3,by rw [tz];exact h.three,?_,fun y hy=>?_,h.fl⟩
 ·rw [tz,ed]
  have:=ke kinds [v] (sh.drop (p+1))
  have e:bx kinds (v::sh.drop (p+1))=bx kinds [v]+bx kinds (sh.drop (p+1)):=this
  have:=h.un
  omega
 ·rcases List.mem_append.mp hy with g | g
  ·exact h.zl y g
  ·rw [List.mem_singleton.mp g];exact hl
theorem DI.put {kinds:List Str} {sh:List V} {p:Nat} {zs fs zs0 rd:List Str} (hk:Kinds kinds) (ok:jn kinds sh) (h:DI kinds sh (p+1) zs fs) {v:V} (hv:sh[p]?=some v) (hn:inV v (kinds.map V.str)=false) (e:zs=zs0++rd) (hr:rd.length=arV v):
  (∀z fs2,fs2.length+1=fs.length+tc rd→isT z=true→1≤z.length→z.length≤100→(∀y∈fs2,isT y=true∧1≤y.length∧y.length≤100)→DI kinds sh p (zs0++[z]) fs2)∧
  (∀z fs2,fs2.length=fs.length+tc rd→isT z=false→1≤z.length→z.length≤100→(∀y∈fs2,isT y=true∧1≤y.length∧y.length≤100)→DI kinds sh p (zs0++[z]) fs2)∧(0 < p→1≤fs.length+tc rd):=by
 obtain ⟨h1,h2,h3,ed⟩:=h.less hv
 subst e
 rw [List.length_append,hr,Nat.add_sub_cancel] at h2 h3
 have th:=h.three
 have un:=h.un
 rw [oy] at th un
 have uv:bx kinds (sh.drop p)=1+bx kinds (sh.drop (p+1)):=by
  rw [ed]
  have:=ke kinds [v] (sh.drop (p+1))
  have e1:bx kinds [v]=1:=by
   unfold bx
   rw [List.filter_cons,hn]
   rfl
  have e:bx kinds (v::sh.drop (p+1))=bx kinds [v]+bx kinds (sh.drop (p+1)):=this
  omega
 have zl0:∀y∈zs0,1≤y.length∧y.length≤100:=fun y hy=>h.zl y (List.mem_append_left _ hy)
 refine ⟨fun z fs2 hf hz l1 l2 hfl=>⟨by rw [List.length_append];exact h2,by rw [List.length_append];exact h3,?_,?_,fun y hy=>?_,hfl⟩,fun z fs2 hf hz l1 l2 hfl=>⟨by rw [List.length_append];exact h2,by rw [List.length_append];exact h3,?_,?_,fun y hy=>?_,hfl⟩,fun hp=>?_⟩
 ·rw [oy,show tc [z]=1 by unfold tc;rw [List.filter_cons,hz];rfl];omega
 ·rw [oy,show tc [z]=1 by unfold tc;rw [List.filter_cons,hz];rfl,uv];omega
 ·rcases List.mem_append.mp hy with g | g
  ·exact zl0 y g
  ·rw [List.mem_singleton.mp g];exact ⟨l1,l2⟩
 ·rw [oy,show tc [z]=0 by unfold tc;rw [List.filter_cons,hz];rfl];omega
 ·rw [oy,show tc [z]=0 by unfold tc;rw [List.filter_cons,hz];rfl,uv];omega
 ·rcases List.mem_append.mp hy with g | g
  ·exact zl0 y g
  ·rw [List.mem_singleton.mp g];exact ⟨l1,l2⟩
 ·have u5:=ok.few
  have hs:bx kinds sh≤5:=u5
  have es:bx kinds sh=bx kinds (sh.take p)+bx kinds (sh.drop p):=by
   rw [←ke,List.take_append_drop]
  have pu:=vh hk (sh.take p) 1 _ (fun x hx=>ok.w x (List.mem_of_mem_take hx)) h3
  have tl:tc zs0≤zs0.length:=List.length_filter_le _ _
  omega
theorem Oc {kinds:List Str} (hk:Kinds kinds) {v:V} (hv:isW v) (h:inV v (kinds.map V.str)=true):arV v=0:=by
 obtain ⟨b1,b2,b3,_,_,_⟩:=lets
 rcases fm (kinds:=kinds) hv with ⟨rfl,_⟩ | ⟨rfl,_⟩ | ⟨⟨z,hz,rfl⟩,_⟩ | ⟨_,hno⟩
 ·exact ve
 ·exact uy
 ·exact (hk z hz).1
 ·rw [hno] at h;cases h
theorem gv (a b:Str):(a++b).cps.toList=a.cps.toList++b.cps.toList:=by
 show (a.cps++b.cps).toList=_
 exact Array.toList_append
theorem isT_h (tx:Str):isT (Str.ofString "h"++tx)=false:=by
 unfold isT
 rw [gv,show (Str.ofString "h").cps.toList=[104] by decide+kernel]
 rfl
theorem Nb:isT (Str.ofString "out")=false:=by decide+kernel
theorem J5 {z:Str} (h:1≤z.length):∃c,atI z.cps.toList 0=some c∧((V.str ⟨#[c]⟩=V.str (Str.ofString "t"))↔isT z=true):=by
 have hl:z.cps.toList.length=z.length:=rfl
 cases e:z.cps.toList with
 | nil=>rw [e] at hl;simp at hl;omega
 | cons c r=>
  refine ⟨c,ax (j:=0) rfl,?_⟩
  unfold isT
  rw [e]
  have et:Str.ofString "t"=⟨#[116]⟩:=by decide+kernel
  rw [et]
  constructor
  ·intro h
   have:(#[c]:Array Nat)=#[116]:=congrArg Str.cps (V.str.inj h)
   have:c=116:=by simpa using this
   subst this
   rfl
  ·intro h
   have:c=116:=by simpa using h
   subst this
   rfl
theorem Fy {v:V} (hv:isW v):((if inV v [V.str "add",V.str "sub",V.str "mul",V.str "neg"]=true then (1:Int) else 0)+if inV v [V.str "add",V.str "sub",V.str "mul"]=true then 1 else 0)=(arV v:Int):=by
 have three:=Ar hv
 have four:=zd hv
 have a2:=ug v
 by_cases c:0 < arV v
 ·rw [if_pos (four.mpr c)]
  by_cases c2:arV v=2
  ·rw [if_pos (three.mpr c2)];omega
  ·rw [if_neg fun e=>c2 (three.mp e)];omega
 ·rw [if_neg fun e=>c (four.mp e),if_neg fun e=>by have:=three.mp e;omega];omega
def yp:Sp:=fun vs H Q _=>∃(d nl b:Addr) (ns:List Int) (zs:List Str) (n:Nat),vs=[.ref d,.ref nl]∧fk H d b ns n∧cw H nl zs∧n≤1000∧∀(bt:Addr) (n':Nat) (H':Hp) (kinds:List Str) (rs:List Rl),au d H H'→H' d=some (.lst [.ref b,.int (n':Int)])→n'≤n+1000→dg H' bt kinds rs→Bk kinds rs→1≤rs.length→Q (.ref bt) H'
def fb (H:Hp) (sa:List Addr) (kinds:List Str) (ps:List (Str×List V)):Prop:=sa.length=ps.length∧∀(i:Nat) (k:Str) (sh:List V),ps[i]?=some (k,sh)→(jn kinds sh∧k∈kinds)∧∃a s:Addr,sa[i]?=some a∧H a=some (.tup [.str k,.ref s])∧H s=some (.tup sh)
theorem fb.nil (H:Hp) (kinds:List Str):fb H [] kinds []:=⟨rfl,fun i k sh h=>by simp at h⟩
theorem fb.ku {H H':Hp} {d b:Addr} {ns:List Int} {n:Nat} {sa:List Addr} {kinds:List Str} {ps:List (Str×List V)} (h:fb H sa kinds ps) (hD:fk H d b ns n) (s:au d H H'):fb H' sa kinds ps:=⟨h.1,fun i k sh hi=>by
 obtain ⟨ok,a,t,h1,h2,h3⟩:=h.2 i k sh hi
 exact ⟨ok,a,t,h1,s _ _ (ee h2 hD.1 (by intro e;cases e)) h2,s _ _ (ee h3 hD.1 (by intro e;cases e)) h3⟩⟩
theorem fb.same {H H':Hp} {sa:List Addr} {kinds:List Str} {ps:List (Str×List V)} (h:fb H sa kinds ps) (s:ao H H'):fb H' sa kinds ps:=⟨h.1,fun i k sh hi=>by
 obtain ⟨ok,a,t,h1,h2,h3⟩:=h.2 i k sh hi
 exact ⟨ok,a,t,h1,s _ _ h2,s _ _ h3⟩⟩
theorem fb.snoc {H:Hp} {sa:List Addr} {kinds:List Str} {ps:List (Str×List V)} (h:fb H sa kinds ps) {a s:Addr} {k:Str} {sh:List V} (ok:jn kinds sh∧k∈kinds) (h1:H a=some (.tup [.str k,.ref s])) (h2:H s=some (.tup sh)):fb H (sa++[a]) kinds (ps++[(k,sh)]):=by
 refine ⟨by rw [List.length_append,List.length_append,h.1];rfl,fun i k' sh' hi=>?_⟩
 by_cases c:i < ps.length
 ·rw [List.getElem?_append_left c] at hi
  obtain ⟨ok',a',t',g1,g2,g3⟩:=h.2 i k' sh' hi
  exact ⟨ok',a',t',by rw [List.getElem?_append_left (by rw [h.1];exact c)];exact g1,g2,g3⟩
 ·rw [List.getElem?_append_right (by omega)] at hi
  have hz:i - ps.length=0:=by
   rcases Nat.eq_zero_or_pos (i - ps.length) with g | g
   ·exact g
   ·rw [List.getElem?_eq_none (by rw [List.length_singleton];omega)] at hi;cases hi
  rw [hz] at hi
  cases hi
  exact ⟨ok,a,s,by rw [List.getElem?_append_right (by rw [h.1];omega),h.1,hz];rfl,h1,h2⟩
theorem G6 {kinds:List Str} (hk:Kinds kinds) {z:Str} (hz:z∈kinds):jn kinds [.str z]:=by
 refine ⟨fun v hv=>by rw [List.mem_singleton.mp hv];exact ⟨Sum.inr z,rfl⟩,?_,by show (1:Nat)≤11;decide,Nat.le_trans (List.length_filter_le _ _) (by show (1:Nat)≤5;decide)⟩
 show pend 1 [arS z]=some 0
 rw [(hk z hz).1]
 rfl
theorem Im (kinds:List Str):jn kinds [gq]:=⟨fun v hv=>by rw [List.mem_singleton.mp hv];exact ⟨Sum.inr _,rfl⟩,by show pend 1 [arV gq]=some 0;rw [ve];rfl,by show (1:Nat)≤11;decide,Nat.le_trans (List.length_filter_le _ _) (by show (1:Nat)≤5;decide)⟩
theorem Lq (kinds:List Str):jn kinds [gb]:=⟨fun v hv=>by rw [List.mem_singleton.mp hv];exact ⟨Sum.inr _,rfl⟩,by show pend 1 [arV gb]=some 0;rw [uy];rfl,by show (1:Nat)≤11;decide,Nat.le_trans (List.length_filter_le _ _) (by show (1:Nat)≤5;decide)⟩
theorem Hu {kinds:List Str} (hk:Kinds kinds) {z:Str} (hz:z∈kinds):jn kinds [.str (Str.ofString "add"),.str z,.str z]:=by
 refine ⟨fun v hv=>?_,?_,by show (3:Nat)≤11;decide,Nat.le_trans (List.length_filter_le _ _) (by show (3:Nat)≤5;decide)⟩
 ·simp only [List.mem_cons,List.not_mem_nil,or_false] at hv
  rcases hv with rfl | rfl | rfl <;> exact ⟨Sum.inr _,rfl⟩
 ·show pend 1 [arS (Str.ofString "add"),arS z,arS z]=some 0
  rw [(hk z hz).1,show arS (Str.ofString "add")=2 by decide+kernel]
  rfl
theorem Iy {kinds:List Str} (hk:Kinds kinds) {z:Str} (hz:z∈kinds):jn kinds [.str (Str.ofString "neg"),.str z]:=by
 refine ⟨fun v hv=>?_,?_,by show (2:Nat)≤11;decide,Nat.le_trans (List.length_filter_le _ _) (by show (2:Nat)≤5;decide)⟩
 ·simp only [List.mem_cons,List.not_mem_nil,or_false] at hv
  rcases hv with rfl | rfl <;> exact ⟨Sum.inr _,rfl⟩
 ·show pend 1 [arS (Str.ofString "neg"),arS z]=some 0
  rw [(hk z hz).1,show arS (Str.ofString "neg")=1 from zh]
  rfl
end Pc
namespace Pc
open PySem PySem.Spec L2 PyProof.Rows
theorem dz.keep {H H':Hp} {a:Addr} {r:Rl} (h:dz H a r) (t:∀{a:Addr} {xs:List V},H a=some (.tup xs)→H' a=some (.tup xs)):dz H' a r:=by
 obtain ⟨sa,da,ds,h1,h2,h3⟩:=h
 exact ⟨sa,da,ds,t h1,t h2,t h3⟩
theorem dc.keep {H H':Hp} {ra:List Addr} {rs:List Rl} (h:dc H ra rs) (t:∀{a:Addr} {xs:List V},H a=some (.tup xs)→H' a=some (.tup xs)):dc H' ra rs:=⟨h.1,fun i r hr=>by
 obtain ⟨a,h1,h2⟩:=h.2 i r hr
 exact ⟨a,h1,h2.keep t⟩⟩
theorem fb.keep {H H':Hp} {sa:List Addr} {kinds:List Str} {ps:List (Str×List V)} (h:fb H sa kinds ps) (t:∀{a:Addr} {xs:List V},H a=some (.tup xs)→H' a=some (.tup xs)):fb H' sa kinds ps:=⟨h.1,fun i k sh hi=>by
 obtain ⟨ok,a,s,h1,h2,h3⟩:=h.2 i k sh hi
 exact ⟨ok,a,s,h1,t h2,t h3⟩⟩
theorem j8 {H H':Hp} {d b:Addr} {ns:List Int} {n:Nat} (hD:fk H d b ns n) (s:au d H H') {a:Addr} {xs:List V} (h:H a=some (.tup xs)):H' a=some (.tup xs):=s _ _ (ee h hD.1 (by intro e;cases e)) h
theorem dc.snoc {H:Hp} {ra:List Addr} {rs:List Rl} (h:dc H ra rs) {a:Addr} {r:Rl} (hr:dz H a r):dc H (ra++[a]) (rs++[r]):=by
 refine ⟨by rw [List.length_append,List.length_append,h.1];rfl,fun i r' hi=>?_⟩
 by_cases c:i < rs.length
 ·rw [List.getElem?_append_left c] at hi
  obtain ⟨a',g1,g2⟩:=h.2 i r' hi
  exact ⟨a',by rw [List.getElem?_append_left (by rw [h.1];exact c)];exact g1,g2⟩
 ·rw [List.getElem?_append_right (by omega)] at hi
  have hz:i - rs.length=0:=by
   rcases Nat.eq_zero_or_pos (i - rs.length) with g | g
   ·exact g
   ·rw [List.getElem?_eq_none (by rw [List.length_singleton];omega)] at hi;cases hi
  rw [hz] at hi
  cases hi
  exact ⟨a,by rw [List.getElem?_append_right (by rw [h.1];omega),h.1,hz];rfl,hr⟩
theorem dc.rot {H:Hp} {ra:List Addr} {rs:List Rl} (h:dc H ra rs) (k:Nat):dc H (ra.drop k++ra.take k) (rs.drop k++rs.take k):=by
 have h1:=h.1
 refine ⟨by rw [List.length_append,List.length_append,List.length_drop,List.length_drop,List.length_take,List.length_take,h1],fun i r hi=>?_⟩
 by_cases c:i < rs.length - k
 ·rw [List.getElem?_append_left (by rw [List.length_drop];exact c),List.getElem?_drop] at hi
  rw [List.getElem?_append_left (by rw [List.length_drop,h1];exact c),List.getElem?_drop]
  exact h.2 _ r hi
 ·rw [List.getElem?_append_right (by rw [List.length_drop];omega),List.length_drop] at hi
  rw [List.getElem?_append_right (by rw [List.length_drop,h1];omega),List.length_drop,h1]
  by_cases c2:i - (rs.length - k) < k
  ·rw [List.getElem?_take_of_lt c2] at hi
   rw [List.getElem?_take_of_lt c2]
   exact h.2 _ r hi
  ·rw [List.getElem?_eq_none (by rw [List.length_take];omega)] at hi
   cases hi
theorem bk_rot {kinds zs:List Str} {rs:List Rl} (hk:Kinds kinds) (kn:kinds.Nodup) (kl:kinds.length≤60) (nd:zs.Nodup) (e:rs.map (·.name)=(zs.drop 8).take rs.length) (so:∀r∈rs,jn kinds r.shape∧1≤r.price∧r.kind∈kinds) (hl:rs.length≤40) (k:Nat):Bk kinds (rs.drop k++rs.take k):=by
 have hp:(rs.drop k++rs.take k).Perm rs:=List.perm_append_comm.trans (by rw [List.take_append_drop])
 refine ⟨hk,(hp.map (·.name)).nodup_iff.mpr ?_,fun r hr=>?_,by rw [hp.length_eq];omega,kn,kl,fun r hr=>(so r (hp.mem_iff.mp hr)).2.1,fun r hr=>(so r (hp.mem_iff.mp hr)).2.2⟩
 ·rw [e]
  exact (nd.sublist (List.drop_sublist 8 zs)).sublist (List.take_sublist _ _)
 ·have o:=(so r (hp.mem_iff.mp hr)).1
  exact ⟨o.w,o.one,by have:=o.len;omega⟩
theorem Ci {zs:List Str} {rs:List Rl} {r:Rl} {i:Nat} (e:rs.map (·.name)=(zs.drop 8).take i) (hz:zs[8+i]?=some r.name):(rs++[r]).map (·.name)=(zs.drop 8).take (i+1):=by
 rw [List.map_append,e,List.take_add_one,List.getElem?_drop,hz]
 rfl
end Pc
namespace Pc
open PySem PySem.Spec L2 PyProof.Rows
def ni:Sp:=fun vs H Q _=>∃(d b:Addr) (ns:List Int) (n:Nat),vs=[.ref d]∧fk H d b ns n∧n≤1000∧∀(l:Addr) (H':Hp) (zs:List Str),au d H H'→H' d=some (.lst [.ref b,.int ((n+1:Nat):Int)])→cw H' l zs→Q (.ref l) H'
noncomputable abbrev Bs:Str:=Str.ofString "abcdefghijklmnopqrstuvwxyz"
noncomputable def ltr (i:Int):Str:=⟨#[97+(i % 26).toNat]⟩
theorem gc (i:Int):(ltr i).cps.toList=[97+(i % 26).toNat]:=rfl
theorem dj (i:Int):(ltr i).length=1:=rfl
theorem ltr_at (i:Int):atI Bs.cps.toList (i % 26)=some (97+(i % 26).toNat):=by
 have a:∀j:Fin 26,Bs.cps.toList[j.1]?=some (97+j.1):=by decide+kernel
 obtain ⟨j,hj,e⟩:∃j:Nat,j < 26∧i % 26=(j:Int):=⟨(i % 26).toNat,by omega,by omega⟩
 rw [e,Int.toNat_natCast]
 exact ax (a ⟨j,hj⟩)
theorem gh {i:Int} {H:Hp} {Q:VK} (q:Q (.str (ltr i)) H):rIxS (.str Bs) (.int (i % 26)) H Q:=
 ⟨Bs,i % 26,_,rfl,rfl,by rw [sizeLine_eq];decide+kernel,ltr_at i,q⟩
noncomputable def dm:List Str:=["add","sub","mul","neg","any","var","put","load","out"]
noncomputable def ownC:List (List Nat):=dm.map fun z=>z.cps.toList
theorem o9 {a b:Str} (h:a.cps.toList=b.cps.toList):a=b:=by
 cases a;cases b
 congr 1
 exact Array.toList_inj.mp h
theorem o7 {z:Str}:z∈dm↔z.cps.toList∈ownC:=by
 unfold ownC
 constructor
 ·exact fun h=>List.mem_map.mpr ⟨z,h,rfl⟩
 ·intro h
  obtain ⟨y,hy,e⟩:=List.mem_map.mp h
  rw [←o9 e]
  exact hy
theorem own_ok {z:Str} (h:z∉dm):nmOk z:=by
 refine ⟨?_,fun e=>h ?_,fun e=>h ?_⟩
 ·rcases Nat.eq_zero_or_pos (arS z) with g | g
  ·exact g
  ·exfalso
   apply h
   rcases oz g with rfl | rfl | rfl | rfl
   ·exact List.mem_cons_self
   ·exact List.mem_cons_of_mem _ List.mem_cons_self
   ·exact List.mem_cons_of_mem _ (List.mem_cons_of_mem _ List.mem_cons_self)
   ·exact List.mem_cons_of_mem _ (List.mem_cons_of_mem _ (List.mem_cons_of_mem _ List.mem_cons_self))
 ·rw [V.str.inj (show V.str z=V.str (Str.ofString "any") from e)]
  decide+kernel
 ·rw [V.str.inj (show V.str z=V.str (Str.ofString "var") from e)]
  decide+kernel
noncomputable def nm0 (m:Int) (tail:Str) (k:Nat):Str:=ltr (m+(k:Int))++ltr (m / 7+(k:Int) / 26)++tail
noncomputable def nm1 (m:Int) (k:Nat):Str:=dm.getD (((k:Int)+m) % 9).toNat ""++ltr (m / 9+(k:Int) / 9)
noncomputable def nm2 (m:Int) (k:Nat):Str:=nu (ltr m) (1+(k:Int) % 3).toNat++nu (ltr (m+1)) ((k:Int) / 3 % 4).toNat++ltr (m+2+(k:Int) / 12)
noncomputable def qa (m:Int):Str:=nu (ltr (m / 26)) (m / 676 % 6).toNat
noncomputable def nmX (c:Int) (k:Nat):Str:=if c % 3=2 then nm2 (c / 3) k else if c % 3=1 then nm1 (c / 3) k else nm0 (c / 3) (qa (c / 3)) k
noncomputable def nmP (c:Int) (k:Nat):Str:=if nmX c k∈dm then nmX c k++"xq" else nmX c k
theorem kj (i:Int) (n:Nat):(nu (ltr i) n).cps.toList=List.replicate n (97+(i % 26).toNat):=by
 rw [Bv,gc]
 induction n with
 | zero=>rfl
 | succ n ih=>rw [List.replicate_succ,List.flatten_cons,ih,List.replicate_succ];rfl
theorem Gr (m:Int) (t:Str) (k:Nat):(nm0 m t k).cps.toList=(97+((m+(k:Int)) % 26).toNat)::(97+((m / 7+(k:Int) / 26) % 26).toNat)::t.cps.toList:=by
 unfold nm0
 rw [gv,gv,gc,gc]
 rfl
theorem add_mod {n a b c:Int} (h:(a+b) % n=(a+c) % n):(b - c) % n=0:=by
 have h:=Int.emod_eq_emod_iff_emod_sub_eq_zero.mp h
 rw [show a+b - (a+c)=b - c by omega] at h
 exact h
theorem rm {a b:Int} {n:Nat} (hn:0 < n) (h:97+(a % (n:Int)).toNat=97+(b % (n:Int)).toNat):a % (n:Int)=b % (n:Int):=by
 have h1:=Int.emod_nonneg a (show (n:Int)≠0 by omega)
 have h2:=Int.emod_nonneg b (show (n:Int)≠0 by omega)
 generalize a % (n:Int)=x at h h1
 generalize b % (n:Int)=y at h h2
 omega
theorem Nk {m:Int} {t:Str} {k k':Nat} (h:k < 60) (h':k' < 60) (e:nm0 m t k=nm0 m t k'):k=k':=by
 have e:=congrArg (fun z:Str=>z.cps.toList) e
 simp only [Gr,List.cons.injEq] at e
 obtain ⟨e1,e2,_⟩:=e
 have a1:=add_mod (rm (n:=26) (by decide) e1)
 have a2:=add_mod (rm (n:=26) (by decide) e2)
 clear e1 e2
 omega
theorem Gq:dm.Nodup:=by decide+kernel
theorem Oq {m:Int} {k k':Nat} (h:k < 60) (h':k' < 60) (e:nm1 m k=nm1 m k'):k=k':=by
 unfold nm1 at e
 have e:=congrArg (fun z:Str=>z.cps.toList) e
 simp only [gv,gc] at e
 obtain ⟨e1,e2⟩:=List.append_inj' e rfl
 have e1:=o9 e1
 have b1:(((k:Int)+m) % 9).toNat < dm.length:=by show _ < 9;omega
 have b2:(((k':Int)+m) % 9).toNat < dm.length:=by show _ < 9;omega
 rw [List.getD_eq_getElem?_getD,List.getD_eq_getElem?_getD,List.getElem?_eq_getElem b1,List.getElem?_eq_getElem b2] at e1
 have e3:=(List.getElem_inj Gq).mp (show dm[(((k:Int)+m) % 9).toNat]=dm[(((k':Int)+m) % 9).toNat] from e1)
 simp only [List.cons.injEq,and_true] at e2
 have a2:=add_mod (rm (n:=26) (by decide) e2)
 have h1:=Int.emod_nonneg ((k:Int)+m) (show (9:Int)≠0 by decide)
 have h2:=Int.emod_nonneg ((k':Int)+m) (show (9:Int)≠0 by decide)
 have e4:((k:Int)+m) % 9=((k':Int)+m) % 9:=by
  generalize ((k:Int)+m) % 9=x at e3 h1
  generalize ((k':Int)+m) % 9=y at e3 h2
  clear a2 h h'
  omega
 rw [Int.add_comm,Int.add_comm (k':Int)] at e4
 have a1:=add_mod e4
 clear e1 e2 e3 e4 b1 b2 h1 h2 e
 omega
theorem wq (m:Int) (k:Nat):(nm2 m k).cps.toList=List.replicate (1+(k:Int) % 3).toNat (97+(m % 26).toNat)++(List.replicate ((k:Int) / 3 % 4).toNat (97+((m+1) % 26).toNat)++[97+((m+2+(k:Int) / 12) % 26).toNat]):=by
 unfold nm2
 rw [gv,gv,kj,kj,gc,List.append_assoc]
theorem Oz {m:Int} {k k':Nat} (h:k < 60) (h':k' < 60) (e:nm2 m k=nm2 m k'):k=k':=by
 have e:=congrArg (fun z:Str=>z.cps.toList) e
 simp only [wq] at e
 have ab:97+((m+1) % 26).toNat≠97+(m % 26).toNat:=by omega
 have ac:∀k:Nat,k < 60→97+((m+2+(k:Int) / 12) % 26).toNat≠97+(m % 26).toNat:=fun k h=>by omega
 have bc:∀k:Nat,k < 60→97+((m+2+(k:Int) / 12) % 26).toNat≠97+((m+1) % 26).toNat:=fun k h=>by omega
 have c1:=congrArg (List.count (97+(m % 26).toNat)) e
 have c2:=congrArg (List.count (97+((m+1) % 26).toNat)) e
 have c3:=congrArg List.getLast? e
 rw [List.count_append,List.count_append,List.count_append,List.count_append,List.count_replicate_self,List.count_replicate_self,List.count_replicate,List.count_replicate,List.count_singleton,List.count_singleton,if_neg (by simpa using ab),if_neg (by simpa using ac k h),if_neg (by simpa using ab),if_neg (by simpa using ac k' h')] at c1
 rw [List.count_append,List.count_append,List.count_append,List.count_append,List.count_replicate_self,List.count_replicate_self,List.count_replicate,List.count_replicate,List.count_singleton,List.count_singleton,if_neg (by simpa using ab.symm),if_neg (by simpa using bc k h),if_neg (by simpa using ab.symm),if_neg (by simpa using bc k' h')] at c2
 rw [←List.append_assoc,←List.append_assoc,List.getLast?_concat,List.getLast?_concat] at c3
 have c3:=Option.some.inj c3
 rw [Int.add_assoc,Int.add_assoc m 2] at c3
 have a3:=add_mod (rm (n:=26) (by decide) c3)
 clear c3 ab ac bc e
 omega
theorem Oa (m:Int) (k:Nat):nm1 m k∉dm:=by
 intro h
 have h:=o7.mp h
 unfold nm1 at h
 have b1:(((k:Int)+m) % 9).toNat < dm.length:=by show _ < 9;omega
 rw [gv,gc,List.getD_eq_getElem?_getD,List.getElem?_eq_getElem b1] at h
 have a:∀x∈ownC,x.dropLast∉ownC:=by decide+kernel
 apply a _ h
 rw [List.dropLast_concat]
 exact o7.mp (List.getElem_mem b1)
theorem Mj {m:Int} {k:Nat} (hk:k < 60):nm2 m k∉dm:=by
 intro h
 have h:=o7.mp h
 rw [wq] at h
 have a:∀x∈ownC,3≤x.length∧x.getD 1 0≠x.getD 0 0∧x.getD 1 0≠x.getD 0 0+1∧(x.getD 0 0=122→False):=by decide+kernel
 obtain ⟨i,hi⟩:∃i,(1+(k:Int) % 3).toNat=i+1:=⟨((k:Int) % 3).toNat,by omega⟩
 obtain ⟨a1,a2,a3,a4⟩:=a _ h
 rw [hi,List.replicate_succ] at a1 a2 a3 a4
 cases i with
 | succ i=>
  rw [List.replicate_succ] at a2
  exact a2 rfl
 | zero=>
  cases hj:((k:Int) / 3 % 4).toNat with
  | zero=>
   rw [hj] at a1
   simp at a1
  | succ j=>
   rw [hj,List.replicate_succ] at a3
   simp at a3 a4
   omega
theorem yd {z:Str} (h:z∈dm):z.length≤4∧3≤z.length:=by
 have a:∀z∈dm,z.length≤4∧3≤z.length:=by decide+kernel
 exact a z h
theorem Cj:(Str.length "xq")=2:=by decide+kernel
theorem Eg {c:Int} {k k':Nat} (h:k < 60) (h':k' < 60) (e:nmX c k=nmX c k'):k=k':=by
 unfold nmX at e
 by_cases c2:c % 3=2
 ·rw [if_pos c2,if_pos c2] at e;exact Oz h h' e
 rw [if_neg c2,if_neg c2] at e
 by_cases c1:c % 3=1
 ·rw [if_pos c1,if_pos c1] at e;exact Oq h h' e
 rw [if_neg c1,if_neg c1] at e
 exact Nk h h' e
theorem Dr {c:Int} {k:Nat} (h:k < 60) (e:nmX c k∈dm) (j:Nat):(nmX c j).length=(nmX c k).length:=by
 unfold nmX at e ⊢
 by_cases c2:c % 3=2
 ·rw [if_pos c2] at e;exact absurd e (Mj h)
 rw [if_neg c2] at e
 rw [if_neg c2,if_neg c2]
 by_cases c1:c % 3=1
 ·rw [if_pos c1] at e;exact absurd e (Oa _ _)
 rw [if_neg c1,if_neg c1]
 unfold nm0
 rw [Str.length_append,Str.length_append,Str.length_append,Str.length_append,dj,dj,dj,dj]
theorem Mw {c:Int} {k k':Nat} (h:k < 60) (h':k' < 60) (e:nmP c k=nmP c k'):k=k':=by
 unfold nmP at e
 have x2:=Cj
 by_cases o:nmX c k∈dm
 ·rw [if_pos o] at e
  have l1:=Dr h o k'
  have e2:=congrArg Str.length e
  by_cases o':nmX c k'∈dm
  ·rw [if_pos o'] at e
   have e:=congrArg (fun z:Str=>z.cps.toList) e
   simp only [gv] at e
   exact Eg h h' (o9 (List.append_inj' e rfl).1)
  ·rw [if_neg o',Str.length_append] at e2
   omega
 ·rw [if_neg o] at e
  by_cases o':nmX c k'∈dm
  ·have l1:=Dr h' o' k
   rw [if_pos o'] at e
   have e2:=congrArg Str.length e
   rw [Str.length_append] at e2
   omega
  ·rw [if_neg o'] at e
   exact Eg h h' e
theorem nmP_ok (c:Int) (k:Nat):nmOk (nmP c k):=by
 apply own_ok
 unfold nmP
 by_cases o:nmX c k∈dm
 ·rw [if_pos o]
  intro h
  have a:=(yd h).1
  have b:=(yd o).2
  rw [Str.length_append,Cj] at a
  omega
 ·rw [if_neg o];exact o
theorem Bt {H:Hp} {l:Addr} {c:Int} (h:H l=some (.lst ((List.range 60).map fun k=>V.str (nmP c k)))):cw H l ((List.range 60).map (nmP c)):=by
 refine ⟨by rw [List.map_map];exact h,by rw [List.length_map,List.length_range],?_,fun z hz=>?_⟩
 ·refine List.pairwise_map.mpr (List.Pairwise.imp_of_mem ?_ List.nodup_range)
  intro a b ha hb n e
  exact n (Mw (List.mem_range.mp ha) (List.mem_range.mp hb) e)
 ·obtain ⟨k,_,rfl⟩:=List.mem_map.mp hz
  exact nmP_ok c k
theorem Ej (m m':Int) (k:Nat):(nm0 m (qa m') k).length≤100:=by
 unfold nm0 qa
 rw [Str.length_append,Str.length_append,dj,dj]
 have e:(nu (ltr (m' / 26)) (m' / 676 % 6).toNat).length=(nu (ltr (m' / 26)) (m' / 676 % 6).toNat).cps.toList.length:=rfl
 rw [e,kj,List.length_replicate]
 omega
theorem kf (i:Int) (n:Nat):(nu (ltr i) n).length=n:=by
 have e:(nu (ltr i) n).length=(nu (ltr i) n).cps.toList.length:=rfl
 rw [e,kj,List.length_replicate]
theorem Eo (m:Int) (k:Nat):(nm1 m k).length≤100:=by
 unfold nm1
 have b1:(((k:Int)+m) % 9).toNat < dm.length:=by show _ < 9;omega
 rw [Str.length_append,dj,List.getD_eq_getElem?_getD,List.getElem?_eq_getElem b1]
 have:=(yd (List.getElem_mem b1)).1
 show (dm[(((k:Int)+m) % 9).toNat]).length+1≤100
 omega
theorem Oo (m:Int) (k:Nat):(nm2 m k).length≤100:=by
 unfold nm2
 rw [Str.length_append,Str.length_append,dj,kf,kf]
 omega
theorem Mc (c:Int) (k:Nat):(nmX c k).length≤100:=by
 unfold nmX
 by_cases c2:c % 3=2
 ·rw [if_pos c2];exact Oo _ _
 rw [if_neg c2]
 by_cases c1:c % 3=1
 ·rw [if_pos c1];exact Eo _ _
 rw [if_neg c1];exact Ej _ _ _
theorem Ju (z:Str):(inV (.str z) (dm.map V.str)=true)↔z∈dm:=by
 constructor
 ·intro h
  obtain ⟨y,hy,e⟩:=List.mem_map.mp (kg h)
  rw [←V.str.inj e]
  exact hy
 ·intro h
  exact rh (List.mem_map.mpr ⟨z,h,rfl⟩)
theorem dg.keep {H H':Hp} {b:Addr} {kinds:List Str} {rs:List Rl} (h:dg H b kinds rs) (t:∀{a:Addr} {xs:List V},H a=some (.tup xs)→H' a=some (.tup xs)):dg H' b kinds rs:=by
 obtain ⟨kt,rt,ra,h1,h2,h3,h4⟩:=h
 exact ⟨kt,rt,ra,t h1,t h2,t h3,h4.keep t⟩
end Pc
namespace Fm
section
variable {N:Type} [DecidableEq N]
structure Lin (lt:N→N→Bool):Prop where
 irr:∀x,lt x x=false
 tr:∀{x y z},lt x y=true→lt y z=true→lt x z=true
 tri:∀x y,lt x y=true∨x=y∨lt y x=true
variable {lt:N→N→Bool}
noncomputable def ev (mon:N→Int):List (N×Int)→Int
 | []=>0
 | p::r=>p.2*mon p.1+ev mon r
variable (mon:N→Int)
end
end Fm
namespace Fm
section
variable {N:Type} [DecidableEq N] (mon:N→Int)
end
end Fm
namespace L2.Itm
open PySem PySem.Spec PyProof.Rows
structure Raw (h:Heap) (d:Addr) (es:Array DictEntry) (ep:Nat) (o:Obj):Prop where
 there:h.get? d=some o
 exact':o.ExactDict
 data:o.data=.dict es ep
theorem Raw.typeIs {s:Shared} {d:Addr} {es:Array DictEntry} {ep:Nat} {o:Obj} (r:Raw s.heap d es ep o):s.TypeIs (.ref d) "dict":=⟨o,r.there,r.exact'.1⟩
section
variable {prog:Program} {w:World} {A:Around} {E:Value→Shared→Prop} {s:Shared} {d:Addr} {es:Array DictEntry} {ep:Nat} {o:Obj}
end
end L2.Itm
namespace L2
open PySem PySem.Spec PyProof.Rows Itm
theorem zo {P:Program} {w:World} {H:Hp} {h:Heap} {a:Addr} {o:Obj} {kvs:List (List Key×V)} (ok:HOk P w H h) (e:H a=some (.frz o (.dT kvs))):
  ∃es ep,o.data=.dict es ep∧Raw h a es ep o∧es.size=kvs.length∧∀(i:Nat) (k:List Key) (v:V),kvs[i]?=some (k,v)→∃t u j,es[i]?=some ⟨j,.ref t,u⟩∧H t=some (.tup (k.map kV))∧RelV v u:=by
 obtain ⟨h1,_,_,xs,r,o',es,ep,h2,h3,h4,h5,h6⟩:=(show bp P w H h a (.frz o (.dT kvs)) from ok a _ e)
 rw [h1] at h2
 cases h2
 have hl:kvs.length=xs.length:=Paired.length r
 refine ⟨es,ep,h4,⟨h1,h3,h4⟩,by rw [←Array.length_toList,h5,List.length_map,hl],fun i k v hi=>?_⟩
 have get:∀{l:List (List Key×V)} {m:List (List Key×Addr×Value)},Paired (fun (p:List Key×V) (q:List Key×Addr×Value)=>p.1=q.1∧H q.2.1=some (.tup (p.1.map kV))∧RelV p.2 q.2.2) l m→∀(i:Nat) (p:List Key×V),l[i]?=some p→∃q,m[i]?=some q∧p.1=q.1∧H q.2.1=some (.tup (p.1.map kV))∧RelV p.2 q.2.2:=by
  intro l m r
  induction r with
  | nil=>intro i p hp;simp at hp
  | cons h _ ih=>
   intro i p hp
   cases i with
   | zero=>simp at hp;subst hp;exact ⟨_,rfl,h⟩
   | succ i=>exact ih i p (by simpa using hp)
 obtain ⟨q,hq,q1,q2,q3⟩:=get r i (k,v) hi
 refine ⟨q.2.1,q.2.2,(tupleKind (bh P w)).hash q.1,?_,q2,q3⟩
 rw [←Array.getElem?_toList,h5,List.getElem?_map,hq]
 rfl
section
variable {X:Cx} {pins:List (Addr×Obj)} {σ σ':St} {H H0:Hp} {s s0:Shared} {a:Addr} {kvs kvs':List (List Key×V)} {o:Obj}
theorem Inv.Eh (I:Inv X pins σ H s) (e:H a=some (.dT kvs)):∃o es ep,o.data=.dict es ep∧Raw s.heap a es ep o∧Inv X pins σ (upd H a (.frz o (.dT kvs))) s:=by
 have ok:=(show bp X.prog X.w H s.heap a (.dT kvs) from I.hok a _ e)
 obtain ⟨z,y,xs,r,o,es,ep,h1,h2,h3,h4,h5⟩:=id ok
 refine ⟨o,es,ep,h3,⟨h1,h2,h3⟩,?_⟩
 have st:bp X.prog X.w (upd H a (.frz o (.dT kvs))) s.heap a (.dT kvs):=ok.yn (fun b u _ q=>q) (fun b q=>by rw [af (fun z=>by rw [z,e] at q;cases q)];exact q) fun b ys q=>by rw [af (fun z=>by rw [z,e] at q;cases q)];exact q
 exact I.write (t':=s.toks) (h':=s.heap) (e:=a) (by rw [e];exact True.intro) (.inl rfl) (fun b u _ q=>q) ⟨o,h1⟩ ⟨h1,st⟩
theorem Inv.thawT (I0:Inv X pins σ' H0 s0) (e0:H0 a=some (.dT kvs')) (I:Inv X pins σ H s) (e:H a=some (.frz o (.dT kvs))):Inv X pins σ (upd H a (.dT kvs)) s:=by
 have nn:∀b,H b=none→b≠a:=fun b hb z=>by rw [z,e] at hb;cases hb
 have nt:∀b xs,H b=some (.tup xs)→b≠a:=fun b xs hb z=>by rw [z,e] at hb;cases hb
 have no:∀b y,H b=some (.own y)→b≠a:=fun b y hb z=>by rw [z,e] at hb;cases hb
 refine ⟨I.ok,I.os,I.bare,⟨I.base.keep,I.base.slot,fun b ob h1 h2 h3=>?_,I.base.there,fun b xs h1=>?_,fun b ob u h1=>?_,fun b ps h1=>?_⟩,I.loc,I.cell,?_,fun x c h1=>?_,fun p hp=>?_,fun b u q=>?_,I.len⟩
 ·have h4:=I.base.free b ob h1 h2 h3
  rw [af (nn b h4)]
  exact h4
 ·have h4:=I.base.tups b xs h1
  rw [af (nt b xs h4)]
  exact h4
 ·have h4:=I.base.frzs b ob u h1
  have h5:=I0.base.frzs b ob u h1
  rw [af (fun z=>by rw [z,e0] at h5;cases h5)]
  exact h4
 ·obtain ⟨more,h4⟩:=I.base.tbls b ps h1
  exact ⟨more,by rw [af (fun z=>by rw [z,e] at h4;cases h4)];exact h4⟩
 ·rw [af (nn _ I.free)]
  exact I.free
 ·rw [af (nn _ (I.freeC x c h1))]
  exact I.freeC x c h1
 ·obtain ⟨p1,p2,p3,p4,p5⟩:=I.pin p hp
  exact ⟨p1,by rw [af (nn _ p2)];exact p2,p3,p4,p5⟩
 ·by_cases hb:b=a
  ·subst hb
   rw [ae] at q
   cases q
   exact ((show bp X.prog X.w H s.heap b (.frz o (.dT kvs)) from I.hok b _ e).2).yn (fun c v _ r=>r) (fun c r=>by rw [af (no c b r)];exact r) fun c xs r=>by rw [af (nt c xs r)];exact r
  ·rw [af hb] at q
   exact (I.hok b u q).yn (fun c v _ r=>r) (fun c r=>by rw [af (no c b r)];exact r) fun c xs r=>by rw [af (nt c xs r)];exact r
end
def La (t:TE):TE:=fun σ H Q=>∃a kvs,H a=some (.dT kvs)∧t σ H fun v H'=>∃o,H' a=some (.frz o (.dT kvs))∧Q v (upd H' a (.dT kvs))
section
variable {X:Cx}
theorem Lx {e:Expr} {t:TE} (h:PE X e t):PE X e (La t):=by
 intro pins s σ H Q I q
 obtain ⟨a,kvs,e0,q⟩:=q
 exact thn (h pins s σ H _ I q) fun v s1 ⟨x,H1,I1,r1,o,e1,q1⟩=>⟨x,_,Inv.thawT I e0 I1 e1,r1,q1⟩
end
end L2
namespace L2
open PySem PySem.Spec PyProof.Rows Itm
section
variable {X:Cx}
end
def TK (H H':Hp):Prop:=∀b xs,H b=some (.tup xs)→H' b=some (.tup xs)
theorem TK.of {H H':Hp} (s:ao H H'):TK H H':=fun b xs h=>s b _ h
theorem TK.put {H:Hp} {a:Addr} {o o':HO} (h:H a=some o) (ho:∀xs,o≠.tup xs):TK H (upd H a o'):=fun b xs hb=>by
 rw [af (fun e=>by rw [e,h] at hb;exact ho xs (Option.some.inj hb))]
 exact hb
theorem M1 {J:It} {fr:St} {tc:TT} {te:TE} {D:Addr} {H1:Hp} {Q:Hp→Prop} (n:Nat) (item:Nat→V) (P:Nat→List V→Hp→Prop) (mono:∀i ys H H',TK H H'→P i ys H→P i ys H') (hn:n < sizeLine) (hD:H1 D=none)
  (hgo:∀i H,i < n→ao H1 H→J.go i H) (hyld:∀i H x H',i < n→ao H1 H→J.yld i H x H'→H'=H∧x=item i) (hstop:∀H,ao H1 H→J.stop n H) (h0:P 0 [] H1)
  (step:∀i ys H (G:Hp→Prop) (K':V→Hp→Prop),i < n→P i ys H→ys.length≤i→ao H1 H→(∀H3,ao H H3→P (i+1) ys H3→G H3)→(∀y H4,ao H H4→P (i+1) (ys++[y]) H4→K' y H4)→tc ([some (item i)]++fr) H fun b H3=>if b=true then te ([some (item i)]++fr) H3 K' else G H3)
  (done:∀ys H,P n ys H→ys.length≤n→ao H1 H→H D=some (.lst ys)→Q H):LC 1 fr (ck 0) tc te J D H1 Q:=by
 refine ⟨fun i m H=>m=n - i∧i≤n∧∃ys,H D=some (.lst ys)∧P i ys H∧ys.length≤i∧ao H1 H,⟨n,by simp,Nat.zero_le _,[],ae,mono _ _ _ _ (TK.of (aa hD _)) h0,Nat.le_refl _,aa hD _⟩,?_⟩
 rintro i m H ⟨rfl,hi,ys,hys,hP,hl,hS⟩
 by_cases hlt:i < n
 ·refine .inr ⟨hgo i H hlt hS,fun τ x H' hτ hy=>?_⟩
  obtain ⟨e1,e2⟩:=hyld i H x H' hlt hS hy
  subst e1 e2
  obtain ⟨a,rfl⟩:∃a,τ=[a]:=List.length_eq_one_iff.mp hτ
  refine ⟨⟨[some (item i)],rfl,rfl⟩,step i ys H' _ _ hlt hP hl hS (fun H3 q1 q2=>?_) (fun y H4 q1 q2=>?_)⟩
  ·exact ⟨n - (i+1),by omega,rfl,hlt,ys,q1 _ _ hys,q2,Nat.le_succ_of_le hl,hS.trans q1⟩
  ·refine ⟨ys,q1 _ _ hys,by omega,n - (i+1),by omega,rfl,hlt,ys++[y],ae,mono _ _ _ _ (TK.put (q1 _ _ hys) fun xs e=>by cases e) q2,?_,(hS.trans q1).upd hD _⟩
   rw [List.length_append,List.length_singleton]
   omega
 ·have e:i=n:=by omega
  subst e
  exact .inl ⟨hstop H hS,done ys H hP hl hS hys⟩
end L2
namespace Fm
section
variable {α:Type}
noncomputable def ins (lt:α→α→Bool) (x:α):List α→List α
 | []=>[x]
 | y::r=>if lt y x=true then y::ins lt x r else x::y::r
noncomputable def E8 (lt:α→α→Bool) (l:List α):List α:=l.foldr (ins lt) []
variable {lt:α→α→Bool}
theorem vb (x:α):∀l:List α,(ins lt x l).Perm (x::l)
 | []=>List.Perm.refl _
 | y::r=>by
  show (if lt y x=true then y::ins lt x r else x::y::r).Perm _
  split
  ·exact ((vb x r).cons y).trans (List.Perm.swap x y r)
  ·exact List.Perm.refl _
theorem gn:∀l:List α,(E8 lt l).Perm l
 | []=>List.Perm.refl _
 | x::r=>(vb x (E8 lt r)).trans ((gn r).cons x)
def Srt (lt:α→α→Bool) (l:List α):Prop:=l.Pairwise fun a b=>lt b a=false
structure Pre (lt:α→α→Bool):Prop where
 irr:∀x,lt x x=false
 tr:∀{x y z},lt x y=true→lt y z=true→lt x z=true
 neg:∀{x z} (y:α),lt x z=true→lt x y=true∨lt y z=true
theorem Fc (o:Pre lt) (x:α):∀{l:List α},Srt lt l→Srt lt (ins lt x l)
 | [],_=>List.pairwise_singleton _ _
 | y::r,h=>by
  obtain ⟨h1,h2⟩:=List.pairwise_cons.mp h
  show Srt lt (if lt y x=true then y::ins lt x r else x::y::r)
  split
  ·rename_i c
   refine List.pairwise_cons.mpr ⟨fun z hz=>?_,Fc o x h2⟩
   rcases List.mem_cons.mp ((vb x r).mem_iff.mp hz) with e | e
   ·rw [e]
    cases q:lt x y with
    | false=>rfl
    | true=>exact absurd (o.tr c q) (by rw [o.irr];decide)
   ·exact h1 z e
  ·rename_i c
   have c:lt y x=false:=Bool.eq_false_iff.mpr c
   refine List.pairwise_cons.mpr ⟨fun z hz=>?_,h⟩
   rcases List.mem_cons.mp hz with e | e
   ·rw [e];exact c
   ·cases q:lt z x with
    | false=>rfl
    | true=>
     rcases o.neg y q with k | k
     ·rw [h1 z e] at k;cases k
     ·rw [c] at k;cases k
theorem ph (o:Pre lt):∀l:List α,Srt lt (E8 lt l)
 | []=>List.Pairwise.nil
 | x::r=>Fc o x (ph o r)
theorem mr [DecidableEq α] (o:Lin lt):∀{l m:List α},l.Perm m→Srt lt l→Srt lt m→l=m
 | [],m,h,_,_=>h.nil_eq
 | a::r,[],h,_,_=>absurd h.length_eq (by simp)
 | a::r,b::s,h,h1,h2=>by
  obtain ⟨p1,p2⟩:=List.pairwise_cons.mp h1
  obtain ⟨q1,q2⟩:=List.pairwise_cons.mp h2
  have e:a=b:=by
   rcases List.mem_cons.mp (h.mem_iff.mp List.mem_cons_self) with e | e
   ·exact e
   ·rcases List.mem_cons.mp (h.mem_iff.mpr List.mem_cons_self) with k | k
    ·exact k.symm
    ·rcases o.tri a b with z | z | z
     ·rw [q1 a e] at z;cases z
     ·exact z
     ·rw [p1 b k] at z;cases z
  subst e
  rw [mr o (List.Perm.cons_inv h) p2 q2]
end
section
variable {N:Type} [DecidableEq N] {lt:N→N→Bool}
theorem Lin.pre (o:Lin lt) {β:Type} (f:β→N):Pre (fun p q:β=>lt (f p) (f q)):=⟨fun x=>o.irr _,fun h k=>o.tr h k,fun {x z} y h=>by
 rcases o.tri (f x) (f y) with k | k | k
 ·exact .inl k
 ·rw [←k];exact .inr h
 ·exact .inr (o.tr k h)⟩
end
end Fm
namespace Pc
open PySem PySem.Spec L2 PyProof.Rows Fm
theorem linS:Lin ltS:=⟨om,sv,y3⟩
noncomputable def cq (l:List Str):List Str:=E8 ltS l
theorem Hr {l m:List Str} (hp:m.Perm l) (hs:Srt ltS m):m=cq l:=mr linS (hp.trans (gn l).symm) hs (ph (linS.pre id) l)
theorem pe (l:List Str):(cq l).length=l.length:=(gn l).length_eq
theorem Gw {l:List Str} {z:Str}:z∈cq l↔z∈l:=(gn l).mem_iff
end Pc
namespace Pc
open PySem PySem.Spec L2 PyProof.Rows Fm
end Pc
namespace Pc
open PySem PySem.Spec L2 PyProof.Rows Fm
end Pc
namespace L2
open PySem PySem.Spec PyProof.Rows PySem.SeqAt Pc
section
variable {P:Program} {w:World} {A:Around} {s:Shared} {H:Hp}
end
section
variable {X:Cx}
end
end L2
namespace L2
open PySem
theorem hu8_of {k:Nat} {A:Around} (r:gy k A):A.units+8 < cLine:=by
 have:=r.units
 omega
end L2
namespace Pc
open PySem PySem.Spec L2 PyProof.Rows Fm
end Pc
namespace L2
open PySem
end L2
namespace Pc
open PySem PySem.Spec L2 PyProof.Rows Fm
theorem getD_some {α:Type} {l:List α} {i:Nat} {d x:α} (h:l[i]?=some x):l.getD i d=x:=by rw [List.getD_eq_getElem?_getD,h];rfl
end Pc
namespace Pc
open PySem PySem.Spec L2 PyProof.Rows Fm
end Pc
namespace Pc
open PySem PySem.Spec L2 PyProof.Rows Fm
theorem x5 {zs:List Str} {is:List Nat} (hp:is.Perm (List.range (zs.map V.str).length)) (hi:∀i j,i≤j→j < (zs.map V.str).length→rank zs.length (fun i j=>ltS (zs.getD i "") (zs.getD j "")) (is.getD i 0)≤rank zs.length (fun i j=>ltS (zs.getD i "") (zs.getD j "")) (is.getD j 0)):
  (is.map fun i=>(zs.map V.str).getD i .non)=(cq zs).map V.str:=by
 rw [List.length_map] at hp hi
 have hlen:is.length=zs.length:=by rw [hp.length_eq,List.length_range]
 have hmem:∀i∈is,i < zs.length:=fun i h=>List.mem_range.mp (hp.mem_iff.mp h)
 have e1:(is.map fun i=>(zs.map V.str).getD i .non)=(is.map fun i=>zs.getD i "").map V.str:=by
  rw [List.map_map]
  apply List.map_congr_left
  intro i h
  have hi:=hmem i h
  show (zs.map V.str).getD i .non=V.str (zs.getD i "")
  rw [getD_some (x:=V.str zs[i]) (by rw [List.getElem?_map,List.getElem?_eq_getElem hi];rfl),getD_some (List.getElem?_eq_getElem hi)]
 rw [e1]
 congr 1
 refine Hr ?_ ?_
 ·have e:(List.range zs.length).map (fun i=>zs.getD i "")=zs:=by
   apply List.ext_getElem?
   intro i
   rw [List.getElem?_map]
   by_cases h:i < zs.length
   ·rw [List.getElem?_range h,List.getElem?_eq_getElem h]
    show some (zs.getD i "")=_
    rw [getD_some (List.getElem?_eq_getElem h)]
   ·rw [List.getElem?_eq_none_iff.mpr (by rw [List.length_range];omega),List.getElem?_eq_none_iff.mpr (by omega)]
    rfl
  have:=hp.map fun i=>zs.getD i ""
  rw [e] at this
  exact this
 ·refine List.pairwise_map.mpr (List.pairwise_iff_getElem.mpr fun i j h1 h2 hij=>?_)
  have o:Ord zs.length fun i j=>ltS (zs.getD i "") (zs.getD j ""):=⟨fun _ _=>om _,fun _ _ _ _ _ _ a b=>sv a b,fun _ j _ _ _ _ a=>Ew _ a⟩
  have hr:=hi i j (Nat.le_of_lt hij) (by omega)
  rw [getD_some (List.getElem?_eq_getElem h1),getD_some (List.getElem?_eq_getElem h2)] at hr
  have hrk:=o.rank (i:=is[j]) (j:=is[i]) (hmem _ (List.getElem_mem h2)) (hmem _ (List.getElem_mem h1))
  rw [decide_eq_false (by omega)] at hrk
  exact hrk.symm
end Pc
namespace L2.Zd
open PySem
abbrev IsZ (h:Heap) (z TI TO:Addr) (f0 f1:Value):Prop:=
 h.get? z=some { cls:=.type "zip",dict:=none,data:=.fields #[f0,f1,.bool false,.ref TI,.ref TO],slots:=#[] }
section
variable {prog:Program} {w:World} {A:Around} {E:Value→Shared→Prop} {s:Shared}
theorem alive {M:Model} {a:Addr} {Q:Option Obj→Shared→Prop} (h:Q (s.heap.get? a) s):wpAny M A (loadIfAlive a) Q E s:=fun Γ p hΓ=>by
 unfold loadIfAlive
 rw [Sem.wp_loadIfAlive]
 exact wpAny_pure h Γ p hΓ
theorem Kv {z TI TO T:Addr} {b:Bool} {o:Obj} {Q:Bool→Shared→Prop} (hz:IsZ s.heap z TI TO (rawInt T) (.bool b)) (ho:s.heap.get? T=some o)
  (q:∀h',IsZ h' z TI TO (rawInt T) (.bool true)→Heap.SameBut z s.heap h'→Q false { s with heap:=h' }):wpAny (model prog w) A (Builtin.SmallTypes.ownedTupleIsFree (.ref z)) Q E s:=by
 unfold Builtin.SmallTypes.ownedTupleIsFree
 refine wpAny_bind (wpAny_field hz rfl (x:=rawInt T) rfl ?_)
 show wpAny _ _ (loadIfAlive T >>=_) _ _ _
 refine wpAny_bind (alive ?_)
 rw [ho]
 show wpAny _ _ (field (.ref z) 1 >>=_) _ _ _
 refine wpAny_bind (wpAny_field hz rfl (x:=.bool b) rfl ?_)
 cases b with
 | true=>exact wpAny_pure (q s.heap hz (Heap.SameBut.refl _ _))
 | false=>exact wpAny_bind (wpAny_setField_rec hz (by simp) fun h' hz' hs'=>wpAny_pure (q h' hz' hs'))
end
end L2.Zd
namespace L2.Zg
open PySem L2.Zd
def Hf:Bool→Addr→Addr→Array Value→Nat→Heap→Prop
 | false,it,l,xs,k,h=>h.IsListIter it l k∧h.IsList l xs
 | true,it,l,xs,k,h=>h.IsTupleIter it l k∧h.IsTuple l xs
theorem Hf.keep {b:Bool} {it l:Addr} {xs:Array Value} {k:Nat} {h h':Heap} (x:Hf b it l xs k h) (g1:∀o,h.get? it=some o→h'.get? it=some o) (g2:∀o,h.get? l=some o→h'.get? l=some o):Hf b it l xs k h':=by
 cases b
 ·obtain ⟨⟨o,e,r⟩,⟨o',e',r'⟩⟩:=x;exact ⟨⟨o,g1 _ e,r⟩,⟨o',g2 _ e',r'⟩⟩
 ·obtain ⟨⟨o,e,r⟩,⟨o',e',r'⟩⟩:=x;exact ⟨⟨o,g1 _ e,r⟩,⟨o',g2 _ e',r'⟩⟩
section
variable {prog:Program} {w:World} {A:Around} {E:Value→Shared→Prop} {s:Shared}
theorem Hf.next {b:Bool} {it l:Addr} {xs:Array Value} {k:Nat} {v:Value} {Q:Value→Shared→Prop} (x:Hf b it l xs k s.heap) (hne:l≠it) (hx:xs[k]?=some v)
  (hQ:∀h',Hf b it l xs (k+1) h'→Heap.SameBut it s.heap h'→Q v { s with heap:=h' }):wpAny (model prog w) A (Builtin.SmallTypes.nextOf (.ref it)) Q E s:=by
 cases b
 ·obtain ⟨x1,x2⟩:=x
  exact wpAny_nextOf_list_item x1 x2 hx fun h' a b=>hQ h' ⟨a,x2.extBut b.extBut hne⟩ b
 ·obtain ⟨x1,x2⟩:=x
  have ty:=x1.typeIs
  obtain ⟨oi,hoi,ci,di⟩:=id x1
  obtain ⟨ot,hot,_,nt,dt⟩:=id x2
  unfold Builtin.SmallTypes.nextOf
  refine wpAny_bind (wpAny_callSpecial?_slot (name:=Str.ofString "__next__") ty F.slot_tuple_iterator_next (wpAny_call_entry F.slot_tuple_iterator_next ty F.entry_tuple_iterator_next ?_ (F.args_tuple_iterator_next_1 _)))
  show wpAny _ _ (field (.ref it) 0 >>=_) _ _ s
  refine wpAny_bind (wpAny_field hoi di (x:=.ref l) rfl ?_)
  show wpAny _ _ (if (Value.ref l==Value.none)=true then _ else _) _ _ s
  rw [if_neg (show ¬((Value.ref l==Value.none)=true) from Bool.false_ne_true)]
  show wpAny _ _ (field (.ref it) 1 >>=_) _ _ s
  refine wpAny_bind (wpAny_field hoi di (x:=.int k 0) rfl ?_)
  show wpAny _ _ (seqItems? (.ref l) >>=_) _ _ s
  refine wpAny_bind (wpAny_seqItems hot dt ?_)
  simp only [Int.toNat_natCast,hx]
  refine wpAny_bind (wpAny_setField hoi di (by simp) (wpAny_pure ⟨v,rfl,wpAny_pure (hQ _ ⟨⟨_,Heap.get?_update_self _ hoi (Obj.isFreed_of_fields (Obj.data_mapFields di _)),(Obj.cls_mapFields ..).trans ci,by rw [Obj.data_mapFields di];simp [rawInt]⟩,x2.extBut (Heap.SameBut.update ..).extBut hne⟩ (Heap.SameBut.update ..))⟩))
theorem Hf.stop {b:Bool} {it l:Addr} {xs:Array Value} {k:Nat} {Q:Value→Shared→Prop} (hh:A.handled=none) (x:Hf b it l xs k s.heap) (hx:xs[k]?=none)
  (hE:∀h' e,Heap.ExtBut it s.heap h'→(∃o,h'.get? e=some o∧o.cls=.type "StopIteration")→E (.ref e) { s with heap:=h' }):wpAny (model prog w) A (Builtin.SmallTypes.nextOf (.ref it)) Q E s:=by
 cases b
 ·obtain ⟨x1,x2⟩:=x
  exact wpAny_nextOf_list_end hh x1 x2 hx hE
 ·obtain ⟨x1,x2⟩:=x
  have ty:=x1.typeIs
  obtain ⟨oi,hoi,ci,di⟩:=id x1
  obtain ⟨ot,hot,_,nt,dt⟩:=id x2
  unfold Builtin.SmallTypes.nextOf
  refine wpAny_bind (wpAny_callSpecial?_slot (name:=Str.ofString "__next__") ty F.slot_tuple_iterator_next (wpAny_call_entry F.slot_tuple_iterator_next ty F.entry_tuple_iterator_next ?_ (F.args_tuple_iterator_next_1 _)))
  show wpAny _ _ (field (.ref it) 0 >>=_) _ _ s
  refine wpAny_bind (wpAny_field hoi di (x:=.ref l) rfl ?_)
  show wpAny _ _ (if (Value.ref l==Value.none)=true then _ else _) _ _ s
  rw [if_neg (show ¬((Value.ref l==Value.none)=true) from Bool.false_ne_true)]
  show wpAny _ _ (field (.ref it) 1 >>=_) _ _ s
  refine wpAny_bind (wpAny_field hoi di (x:=.int k 0) rfl ?_)
  show wpAny _ _ (seqItems? (.ref l) >>=_) _ _ s
  refine wpAny_bind (wpAny_seqItems hot dt ?_)
  simp only [Int.toNat_natCast,hx]
  refine wpAny_bind (wpAny_rule (wpAny_bind (wpAny_setField hoi di (by simp) ?_)))
  show wpAny _ _ (newExc (.type "StopIteration") [] >>=_) _ _ _
  refine wpAny_bind ?_
  simp only [newExc,newTuple]
  refine wpAny_bind (wpAny_newObj_type ?_ (by size_fits))
  refine wpAny_bind (m:=firstArgMember _ _) (wpAny_of_eq (a:=Value.none) (by first | rfl | (simp only [firstArgMember];rfl)) ?_)
  refine wpAny_newObj_type ?_ (by size_fits)
  simp only [raiseNew]
  refine wpAny_bind (wpAny_handled ?_)
  first | rw [show A.in1.handled=none from hh] | rw [hh]
  refine wpAny_bind (wpAny_pure (wpAny_throw ?_))
  exact hE _ _ (((Heap.SameBut.update ..).extBut.push _).push _) ⟨_,Heap.get?_push_size _ rfl,rfl⟩
theorem free {z TI TO:Addr} {f0:Value} {b:Bool} {Q:Bool→Shared→Prop} (hz:IsZ s.heap z TI TO f0 (.bool b)) (hf:f0=.none∨∃T:Addr,f0=rawInt T)
  (q:∀r h' b',IsZ h' z TI TO f0 (.bool b')→Heap.SameBut z s.heap h'→Q r { s with heap:=h' }):wpAny (model prog w) A (Builtin.SmallTypes.ownedTupleIsFree (.ref z)) Q E s:=by
 rcases hf with rfl | ⟨T,rfl⟩
 ·unfold Builtin.SmallTypes.ownedTupleIsFree
  refine wpAny_bind (wpAny_field hz rfl (x:=.none) rfl (wpAny_pure ?_))
  exact q true s.heap b hz (Heap.SameBut.refl _ _)
 ·cases ho:s.heap.get? T with
  | some o=>exact Kv hz ho fun h' a c=>q false h' true a c
  | none=>
   unfold Builtin.SmallTypes.ownedTupleIsFree
   refine wpAny_bind (wpAny_field hz rfl (x:=rawInt T) rfl ?_)
   show wpAny _ _ (loadIfAlive T >>=_) _ _ _
   refine wpAny_bind (alive ?_)
   rw [ho]
   exact wpAny_pure (q true s.heap b hz (Heap.SameBut.refl _ _))
end
def Zst (c1 c2:Bool) (z TI TO i1 i2 l1 l2:Addr) (xs ys:Array Value) (i:Nat) (h:Heap):Prop:=
 (∃f0 b,IsZ h z TI TO f0 (.bool b)∧(f0=.none∨∃T:Addr,f0=rawInt T))∧(∃a b,IsPair h TO a b)∧IsPair h TI (.ref i1) (.ref i2)∧Hf c1 i1 l1 xs i h∧Hf c2 i2 l2 ys i h
theorem Zst.keep {c1 c2:Bool} {z TI TO i1 i2 l1 l2:Addr} {xs ys:Array Value} {i:Nat} {h h':Heap} (x:Zst c1 c2 z TI TO i1 i2 l1 l2 xs ys i h) (k:∀c∈[z,TI,TO,i1,i2],∀o,h.get? c=some o→h'.get? c=some o) (k1:∀o,h.get? l1=some o→h'.get? l1=some o) (k2:∀o,h.get? l2=some o→h'.get? l2=some o):Zst c1 c2 z TI TO i1 i2 l1 l2 xs ys i h':=by
 obtain ⟨⟨f0,b,a1,a2⟩,⟨p,q,a3⟩,a4,a5,a6⟩:=x
 exact ⟨⟨f0,b,k z (by simp) _ a1,a2⟩,⟨p,q,k TO (by simp) _ a3⟩,k TI (by simp) _ a4,a5.keep (k i1 (by simp)) k1,a6.keep (k i2 (by simp)) k2⟩
section
variable {prog:Program} {w:World} {A:Around} {E:Value→Shared→Prop} {s:Shared} {c1 c2:Bool} {z TI TO i1 i2 l1 l2:Addr} {xs ys:Array Value} {i:Nat}
theorem item {x y:Value} {Q:Value→Shared→Prop} (D:ZipApart z TI TO i1 i2 l1 l2) (hz:Zst c1 c2 z TI TO i1 i2 l1 l2 xs ys i s.heap) (hx:xs[i]?=some x) (hy:ys[i]?=some y)
  (hQ:∀h',Zst c1 c2 z TI TO i1 i2 l1 l2 xs ys (i+1) h'→IsPair h' s.heap.objs.size x y→h'.objs.size=s.heap.objs.size+1→(∀c o,c≠z→c≠TO→c≠i1→c≠i2→s.heap.get? c=some o→h'.get? c=some o)→Q (.ref s.heap.objs.size) { s with heap:=h' }):
  wpAny (model prog w) A (Builtin.«zip.__next__» ⟨[.ref z],[]⟩) (fun fin s'=>∃v,fin=.done (.ret v)∧Q v s') E s:=by
 obtain ⟨⟨f0,b,z0,hf⟩,⟨p,q,hTO⟩,hTI,h1,h2⟩:=hz
 show wpAny _ _ (field (.ref z) 2 >>=_) _ _ _
 refine wpAny_bind (wpAny_field z0 rfl (x:=.bool false) rfl ?_)
 show wpAny _ _ (field (.ref z) 3 >>=_) _ _ _
 refine wpAny_bind (wpAny_field z0 rfl (x:=.ref TI) rfl ?_)
 refine wpAny_bind (wpAny_seqItems hTI rfl ?_)
 show wpAny _ _ (Builtin.SmallTypes.ownedTupleIsFree (.ref z) >>=_) _ _ _
 refine wpAny_bind (free z0 hf fun r h₁ b1 z1 s1=>?_)
 have k1:∀c o,c≠z→s.heap.get? c=some o→h₁.get? c=some o:=fun c o n e=>s1.extBut _ _ n e
 have H1:=h1.keep (fun o e=>k1 _ o D.i1z e) fun o e=>k1 _ o D.l1z e
 have H2:=h2.keep (fun o e=>k1 _ o D.i2z e) fun o e=>k1 _ o D.l2z e
 cases r with
 | false=>
  simp only [Bool.false_eq_true,if_false]
  refine wpAny_bind ?_
  rw [←Array.forIn_toList]
  simp only [List.forIn_cons,List.forIn_nil]
  refine wpAny_bind (wpAny_bind (wpAny_holding ?_))
  show wpAny _ _ (Builtin.SmallTypes.nextOf (.ref i1) >>=_) _ _ _
  refine wpAny_bind (H1.next (s:={ s with heap:=h₁ }) D.l1i1 hx fun h₂ H1' s2=>wpAny_pure (wpAny_pure ?_))
  have s2:Heap.SameBut i1 h₁ h₂:=s2
  have H2':=H2.keep (fun o e=>s2.extBut _ _ D.i12.symm e) fun o e=>s2.extBut _ _ D.l2i1 e
  refine wpAny_bind (wpAny_bind (wpAny_holding ?_))
  show wpAny _ _ (Builtin.SmallTypes.nextOf (.ref i2) >>=_) _ _ _
  refine wpAny_bind (H2'.next (s:={ s with heap:=h₂ }) D.l2i2 hy fun h₃ H2'' s3=>wpAny_pure (wpAny_pure (wpAny_pure ?_)))
  have s3:Heap.SameBut i2 h₂ h₃:=s3
  refine wpAny_bind (wpAny_newTuple (hsz:=by show (2:Nat)≤sizeLine;decide) ?_)
  have sz:h₃.objs.size=s.heap.objs.size:=by rw [s3.1,s2.1,s1.1]
  have up:∀c o,c≠z→c≠i1→c≠i2→s.heap.get? c=some o→(h₃.push { cls:=.type "tuple",data:=.seq #[x,y] }).get? c=some o:=fun c o n1 n2 n3 e=>Heap.get?_push_of_some _ (s3.extBut _ _ n3 (s2.extBut _ _ n2 (s1.extBut _ _ n1 e)))
  refine wpAny_pure ⟨_,rfl,?_⟩
  rw [sz]
  refine hQ _ ⟨⟨f0,b1,Heap.get?_push_of_some _ (s3.extBut _ _ D.i2z.symm (s2.extBut _ _ D.i1z.symm z1)),hf⟩,⟨p,q,up _ _ D.TOz D.TOi1 D.TOi2 hTO⟩,up _ _ D.TIz D.TIi1 D.TIi2 hTI,?_,H2''.keep (fun o e=>Heap.get?_push_of_some _ e) fun o e=>Heap.get?_push_of_some _ e⟩ ?_ (by rw [Heap.size_push,sz]) fun c o n1 _ n3 n4 e=>up c o n1 n3 n4 e
  ·exact H1'.keep (fun o e=>Heap.get?_push_of_some _ (s3.extBut _ _ D.i12 e)) fun o e=>Heap.get?_push_of_some _ (s3.extBut _ _ D.l1i2 e)
  ·rw [←sz]
   exact Heap.get?_push_size _ rfl
 | true=>
  simp only [if_true]
  refine wpAny_bind (wpAny_rule ?_)
  refine wpAny_bind (wpAny_field z1 rfl (x:=.ref TO) rfl ?_)
  refine wpAny_bind (wpAny_setField_rec z1 (by simp) fun h₂ z2 s2=>?_)
  replace z2:IsZ h₂ z TI TO .ellipsis (.bool b1):=z2
  have s2:Heap.SameBut z h₁ h₂:=s2
  refine wpAny_bind ?_
  simp only [List.zipIdx_cons,List.zipIdx_nil,List.forIn_cons,List.forIn_nil]
  have H1a:=H1.keep (fun o e=>s2.extBut _ _ D.i1z e) fun o e=>s2.extBut _ _ D.l1z e
  have H2a:=H2.keep (fun o e=>s2.extBut _ _ D.i2z e) fun o e=>s2.extBut _ _ D.l2z e
  refine wpAny_bind (wpAny_bind (wpAny_onRaise ?_))
  show wpAny _ _ (Builtin.SmallTypes.nextOf (.ref i1) >>=_) _ _ _
  refine wpAny_bind (H1a.next (s:={ s with heap:=h₂ }) D.l1i1 hx fun h₃ H1b s3=>wpAny_pure ?_)
  have s3:Heap.SameBut i1 h₂ h₃:=s3
  have o3:IsPair h₃ TO p q:=s3.extBut _ _ D.TOi1 (s2.extBut _ _ D.TOz (k1 _ _ D.TOz hTO))
  refine wpAny_bind (wpAny_seqItems o3 rfl ?_)
  refine wpAny_bind (wpAny_updateSeq_pair o3 fun h₄ o4 s4=>?_)
  replace o4:IsPair h₄ TO x q:=o4
  have s4:Heap.SameBut TO h₃ h₄:=s4
  refine wpAny_bind (wpAny_letGo (wpAny_pure ?_))
  have H2b:=H2a.keep (fun o e=>s4.extBut _ _ D.TOi2.symm (s3.extBut _ _ D.i12.symm e)) fun o e=>s4.extBut _ _ D.l2TO (s3.extBut _ _ D.l2i1 e)
  refine wpAny_bind (wpAny_bind (wpAny_onRaise ?_))
  show wpAny _ _ (Builtin.SmallTypes.nextOf (.ref i2) >>=_) _ _ _
  refine wpAny_bind (H2b.next (s:={ s with heap:=h₄ }) D.l2i2 hy fun h₅ H2c s5=>wpAny_pure ?_)
  have s5:Heap.SameBut i2 h₄ h₅:=s5
  have o5:IsPair h₅ TO x q:=s5.extBut _ _ D.TOi2 o4
  refine wpAny_bind (wpAny_seqItems o5 rfl ?_)
  refine wpAny_bind (wpAny_updateSeq_pair o5 fun h₆ o6 s6=>?_)
  replace o6:IsPair h₆ TO x y:=o6
  have s6:Heap.SameBut TO h₅ h₆:=s6
  refine wpAny_bind (wpAny_letGo (wpAny_pure (wpAny_pure ?_)))
  refine wpAny_bind (wpAny_seqItems o6 rfl ?_)
  refine wpAny_bind (wpAny_newTuple ?_)
  have sz:h₆.objs.size=s.heap.objs.size:=by rw [s6.1,s5.1,s4.1,s3.1,s2.1,s1.1]
  have z6:IsZ h₆ z TI TO .ellipsis (.bool b1):=s6.extBut _ _ D.TOz.symm (s5.extBut _ _ D.i2z.symm (s4.extBut _ _ D.TOz.symm (s3.extBut _ _ D.i1z.symm z2)))
  have up:∀c o,c≠z→c≠TO→c≠i1→c≠i2→s.heap.get? c=some o→h₆.get? c=some o:=fun c o n1 n2 n3 n4 e=>s6.extBut _ _ n2 (s5.extBut _ _ n4 (s4.extBut _ _ n2 (s3.extBut _ _ n3 (s2.extBut _ _ n1 (k1 _ _ n1 e)))))
  have H1c:=H1b.keep (fun o e=>s6.extBut _ _ D.TOi1.symm (s5.extBut _ _ D.i12 (s4.extBut _ _ D.TOi1.symm e))) fun o e=>s6.extBut _ _ D.l1TO (s5.extBut _ _ D.l1i2 (s4.extBut _ _ D.l1TO e))
  have H2d:=H2c.keep (fun o e=>s6.extBut _ _ D.TOi2.symm e) fun o e=>s6.extBut _ _ D.l2TO e
  have zl:z < h₆.objs.size:=Heap.lt_size z6
  show wpAny _ _ (Builtin.SmallTypes.ownedTupleHandOut (.ref z) (.ref h₆.objs.size) >>=_) _ _ _
  refine wpAny_bind ?_
  unfold Builtin.SmallTypes.ownedTupleHandOut
  have z7:IsZ (h₆.push { cls:=.type "tuple",data:=.seq #[x,y] }) z TI TO .ellipsis (.bool b1):=Heap.get?_push_of_some _ z6
  refine wpAny_bind (wpAny_setField_rec z7 (by simp) fun h₈ z8 s8=>?_)
  replace z8:IsZ h₈ z TI TO (rawInt h₆.objs.size) (.bool b1):=z8
  refine wpAny_setField_rec z8 (by simp) fun h₉ z9 s9=>?_
  replace z9:IsZ h₉ z TI TO (rawInt h₆.objs.size) (.bool false):=z9
  have u9:∀c o,c≠z→h₆.get? c=some o→h₉.get? c=some o:=fun c o n e=>s9.extBut _ _ n (s8.extBut _ _ n (Heap.get?_push_of_some _ e))
  have t9:IsPair h₉ h₆.objs.size x y:=s9.extBut _ _ (Nat.ne_of_gt zl) (s8.extBut _ _ (Nat.ne_of_gt zl) (Heap.get?_push_size _ rfl))
  have n9:h₉.objs.size=h₆.objs.size+1:=by rw [s9.1,s8.1,Heap.size_push]
  rw [sz] at z9 t9 n9
  refine wpAny_pure ⟨_,rfl,?_⟩
  show Q (.ref h₆.objs.size) _
  rw [sz]
  exact hQ h₉ ⟨⟨_,false,z9,.inr ⟨_,rfl⟩⟩,⟨x,y,u9 _ _ D.TOz o6⟩,u9 _ _ D.TIz (up _ _ D.TIz D.TITO D.TIi1 D.TIi2 hTI),H1c.keep (fun o e=>u9 _ o D.i1z e) fun o e=>u9 _ o D.l1z e,H2d.keep (fun o e=>u9 _ o D.i2z e) fun o e=>u9 _ o D.l2z e⟩ t9 n9 fun c o n1 n2 n3 n4 e=>u9 c o n1 (up c o n1 n2 n3 n4 e)
theorem fin {Q:Fin→Shared→Prop} (hh:A.handled=none) (D:ZipApart z TI TO i1 i2 l1 l2) (hz:Zst c1 c2 z TI TO i1 i2 l1 l2 xs ys i s.heap) (hx:xs[i]?=none)
  (hE:∀h' e,(∀c o,c≠z→c≠TO→c≠i1→c≠i2→s.heap.get? c=some o→h'.get? c=some o)→(∃o,h'.get? e=some o∧o.cls=.type "StopIteration")→E (.ref e) { s with heap:=h' }):
  wpAny (model prog w) A (Builtin.«zip.__next__» ⟨[.ref z],[]⟩) Q E s:=by
 obtain ⟨⟨f0,b,z0,hf⟩,⟨p,q,hTO⟩,hTI,h1,h2⟩:=hz
 show wpAny _ _ (field (.ref z) 2 >>=_) _ _ _
 refine wpAny_bind (wpAny_field z0 rfl (x:=.bool false) rfl ?_)
 show wpAny _ _ (field (.ref z) 3 >>=_) _ _ _
 refine wpAny_bind (wpAny_field z0 rfl (x:=.ref TI) rfl ?_)
 refine wpAny_bind (wpAny_seqItems hTI rfl ?_)
 show wpAny _ _ (Builtin.SmallTypes.ownedTupleIsFree (.ref z) >>=_) _ _ _
 refine wpAny_bind (free z0 hf fun r h₁ b1 z1 s1=>?_)
 have k1:∀c o,c≠z→s.heap.get? c=some o→h₁.get? c=some o:=fun c o n e=>s1.extBut _ _ n e
 have H1:=h1.keep (fun o e=>k1 _ o D.i1z e) fun o e=>k1 _ o D.l1z e
 cases r with
 | false=>
  simp only [Bool.false_eq_true,if_false]
  refine wpAny_bind ?_
  rw [←Array.forIn_toList]
  simp only [List.forIn_cons,List.forIn_nil]
  refine wpAny_bind (wpAny_bind (wpAny_holding ?_))
  show wpAny _ _ (Builtin.SmallTypes.nextOf (.ref i1) >>=_) _ _ _
  exact wpAny_bind (H1.stop (s:={ s with heap:=h₁ }) hh hx fun h₂ e s2 he=>hE h₂ e (fun c o n1 _ n3 _ g=>s2 _ _ n3 (k1 _ _ n1 g)) he)
 | true=>
  simp only [if_true]
  refine wpAny_bind (wpAny_rule ?_)
  refine wpAny_bind (wpAny_field z1 rfl (x:=.ref TO) rfl ?_)
  refine wpAny_bind (wpAny_setField_rec z1 (by simp) fun h₂ z2 s2=>?_)
  replace z2:IsZ h₂ z TI TO .ellipsis (.bool b1):=z2
  have s2:Heap.SameBut z h₁ h₂:=s2
  refine wpAny_bind ?_
  simp only [List.zipIdx_cons,List.zipIdx_nil,List.forIn_cons,List.forIn_nil]
  have H1a:=H1.keep (fun o e=>s2.extBut _ _ D.i1z e) fun o e=>s2.extBut _ _ D.l1z e
  refine wpAny_bind (wpAny_bind (wpAny_onRaise ?_))
  show wpAny _ _ (Builtin.SmallTypes.nextOf (.ref i1) >>=_) _ _ _
  refine wpAny_bind (H1a.stop (s:={ s with heap:=h₂ }) hh hx fun h₃ e s3 he=>?_)
  obtain ⟨oe,hoe,hce⟩:=he
  have z3:IsZ h₃ z TI TO .ellipsis (.bool b1):=s3 _ _ D.i1z.symm z2
  have hez:e≠z:=fun x=>by subst x;rw [z3] at hoe;cases hoe;simp at hce
  exact wpAny_setField_rec z3 (by simp) fun h₄ _ s4=>hE h₄ e (fun c o n1 _ n3 _ g=>s4.extBut _ _ n1 (s3 _ _ n3 (s2.extBut _ _ n1 (k1 _ _ n1 g)))) ⟨oe,s4.extBut _ _ hez hoe,hce⟩
theorem pyItem {x y:Value} {Q:Option Value→Shared→Prop} (D:ZipApart z TI TO i1 i2 l1 l2) (hz:Zst c1 c2 z TI TO i1 i2 l1 l2 xs ys i s.heap) (hx:xs[i]?=some x) (hy:ys[i]?=some y)
  (hQ:∀h',Zst c1 c2 z TI TO i1 i2 l1 l2 xs ys (i+1) h'→IsPair h' s.heap.objs.size x y→h'.objs.size=s.heap.objs.size+1→(∀c o,c≠z→c≠TO→c≠i1→c≠i2→s.heap.get? c=some o→h'.get? c=some o)→Q (some (.ref s.heap.objs.size)) { s with heap:=h' }):
  wpAny (model prog w) A (pyNext (.ref z)) Q E s:=by
 have hT:s.TypeIs (.ref z) "zip":=by obtain ⟨⟨f0,b,z0,_⟩,_⟩:=hz;exact ⟨_,z0,rfl⟩
 unfold pyNext
 exact wpAny_bind (wpAny_attempt (wpAny_callSpecial?_slot (name:=Str.ofString "__next__") hT F.slot_zip_next (wpAny_call_entry F.slot_zip_next hT F.entry_zip_next (item D hz hx hy fun h' a b c d=>wpAny_pure (hQ h' a b c d)) (F.args_zip_next_1 _))))
theorem pyFin {Q:Option Value→Shared→Prop} (hh:A.handled=none) (D:ZipApart z TI TO i1 i2 l1 l2) (hz:Zst c1 c2 z TI TO i1 i2 l1 l2 xs ys i s.heap) (hx:xs[i]?=none)
  (hQ:∀h',(∀c o,c≠z→c≠TO→c≠i1→c≠i2→s.heap.get? c=some o→h'.get? c=some o)→Q none { s with heap:=h' }):wpAny (model prog w) A (pyNext (.ref z)) Q E s:=by
 have hT:s.TypeIs (.ref z) "zip":=by obtain ⟨⟨f0,b,z0,_⟩,_⟩:=hz;exact ⟨_,z0,rfl⟩
 unfold pyNext
 refine wpAny_bind (wpAny_attempt (wpAny_callSpecial?_slot (name:=Str.ofString "__next__") hT F.slot_zip_next (wpAny_call_entry F.slot_zip_next hT F.entry_zip_next (fin (by first | exact hh | simp [hh]) D hz hx fun h' e hk he=>?_) (F.args_zip_next_1 _))))
 obtain ⟨o,ho,hc⟩:=he
 refine wpAny_bind (wpAny_isInstance (T:="StopIteration") (b:=true) ⟨o,ho,hc⟩ isSubtype_stop ?_)
 exact wpAny_pure (hQ _ hk)
theorem pySelf {Q:Value→Shared→Prop} (hz:Zst c1 c2 z TI TO i1 i2 l1 l2 xs ys i s.heap) (h:Q (.ref z) s):wpAny (model prog w) A (pyIter (.ref z)) Q E s:=by
 have hT:s.TypeIs (.ref z) "zip":=by obtain ⟨⟨f0,b,z0,_⟩,_⟩:=hz;exact ⟨_,z0,rfl⟩
 refine wpAny_pyIter_slot hT F.slot_zip_iter (wpAny_call_entry F.slot_zip_iter hT F.entry_zip_iter ?_ (F.args_zip_iter_1 _))
 show wpAny _ _ (ret (.ref z)) _ _ s
 exact wpAny_pure ⟨_,rfl,"zip",_,hT,F.slot_zip_next.lookup,h⟩
end
end L2.Zg
namespace L2.Zg
open PySem L2.Zd
theorem new_tl (l1 l2:Addr) (xs ys:Array Value):
  Meets (Builtin.«zip.__new__» ⟨[.type "zip",.ref l1,.ref l2],[]⟩) (fun _ R s=>s.heap.IsTuple l1 xs∧s.heap.IsList l2 ys∧
   R (.ok (.ret (.ref (s.heap.objs.size+4)))) { s with heap:=((((s.heap.push { cls:=.type "tuple_iterator",data:=.fields #[.ref l1,.int 0 0] }).push { cls:=.type "list_iterator",data:=.fields #[.ref l2,.int 0 0] }).push { cls:=.type "tuple",data:=.seq #[.ref s.heap.objs.size,.ref (s.heap.objs.size+1)] }).push { cls:=.type "tuple",data:=.seq #[.none,.none] }).push { cls:=.type "zip",data:=.fields #[.none,.bool false,.bool false,.ref (s.heap.objs.size+2),.ref (s.heap.objs.size+3)] } }):=
 .of_wp fun prog w A R s h=>by
  obtain ⟨hp,g,d,tk,os⟩:=s
  obtain ⟨hl1,hl2,h⟩:=h
  have hsub:=sub_zip
  have hL1:Heap.IsTuple (Shared.heap ⟨hp,g,d,tk,os⟩) l1 xs:=hl1
  have hL2:Heap.IsList (Shared.heap ⟨hp.push { cls:=.type "tuple_iterator",data:=.fields #[.ref l1,.int 0 0] },g,d,tk,os⟩) l2 ys:=Heap.IsList.push hl2 _
  simp only [←Heap.size_push] at h
  wp_walk using wpAny_pyIter_tuple hL1,wpAny_pyIter_list hL2
  simp only [Heap.size_push] at h ⊢
  exact ⟨_,rfl,h⟩
section
variable {prog:Program} {w:World} {A:Around} {E:Value→Shared→Prop} {s:Shared}
theorem O6 {l1 l2:Addr} {xs ys:Array Value} {Q:Value→Shared→Prop} (hl1:s.heap.IsTuple l1 xs) (hl2:s.heap.IsList l2 ys)
  (h:∀h',Zst true false (s.heap.objs.size+4) (s.heap.objs.size+2) (s.heap.objs.size+3) s.heap.objs.size (s.heap.objs.size+1) l1 l2 xs ys 0 h'→h'.objs.size=s.heap.objs.size+5→
   (∀c o,s.heap.get? c=some o→h'.get? c=some o)→Q (.ref (s.heap.objs.size+4)) { s with heap:=h' }):
  wpAny (model prog w) A (call (.type "zip") [.ref l1,.ref l2]) Q E s:=by
 refine callType_new F.called_zip (by decide) (F.typeCall_zip_2 _ _) (F.newCall_zip_2 _ _) (fun obj=>F.args_object_init_3 obj _ _) F.entry_zip_new (new_tl l1 l2 xs ys) ⟨hl1,hl2,?_⟩
 generalize hn:s.heap.objs.size=n at h ⊢
 have e1:(s.heap.push { cls:=.type "tuple_iterator",data:=.fields #[.ref l1,.int 0 0] }).get? n=some { cls:=.type "tuple_iterator",data:=.fields #[.ref l1,.int 0 0] }:=by rw [←hn];exact Heap.get?_push_size _ rfl
 have n1:(s.heap.push { cls:=.type "tuple_iterator",data:=.fields #[.ref l1,.int 0 0] }).objs.size=n+1:=by rw [Heap.size_push,hn]
 have k1:∀c o,s.heap.get? c=some o→(s.heap.push { cls:=.type "tuple_iterator",data:=.fields #[.ref l1,.int 0 0] }).get? c=some o:=fun c o e=>Heap.get?_push_of_some _ e
 generalize s.heap.push { cls:=.type "tuple_iterator",data:=.fields #[.ref l1,.int 0 0] }=h1 at e1 n1 k1 ⊢
 have e2:(h1.push { cls:=.type "list_iterator",data:=.fields #[.ref l2,.int 0 0] }).get? (n+1)=some { cls:=.type "list_iterator",data:=.fields #[.ref l2,.int 0 0] }:=by rw [←n1];exact Heap.get?_push_size _ rfl
 have n2:(h1.push { cls:=.type "list_iterator",data:=.fields #[.ref l2,.int 0 0] }).objs.size=n+2:=by rw [Heap.size_push,n1]
 have k2:∀c o,h1.get? c=some o→(h1.push { cls:=.type "list_iterator",data:=.fields #[.ref l2,.int 0 0] }).get? c=some o:=fun c o e=>Heap.get?_push_of_some _ e
 generalize h1.push { cls:=.type "list_iterator",data:=.fields #[.ref l2,.int 0 0] }=h2 at e2 n2 k2 ⊢
 have e3:(h2.push { cls:=.type "tuple",data:=.seq #[.ref n,.ref (n+1)] }).get? (n+2)=some { cls:=.type "tuple",data:=.seq #[.ref n,.ref (n+1)] }:=by rw [←n2];exact Heap.get?_push_size _ rfl
 have n3:(h2.push { cls:=.type "tuple",data:=.seq #[.ref n,.ref (n+1)] }).objs.size=n+3:=by rw [Heap.size_push,n2]
 have k3:∀c o,h2.get? c=some o→(h2.push { cls:=.type "tuple",data:=.seq #[.ref n,.ref (n+1)] }).get? c=some o:=fun c o e=>Heap.get?_push_of_some _ e
 generalize h2.push { cls:=.type "tuple",data:=.seq #[.ref n,.ref (n+1)] }=h3 at e3 n3 k3 ⊢
 have e4:(h3.push { cls:=.type "tuple",data:=.seq #[.none,.none] }).get? (n+3)=some { cls:=.type "tuple",data:=.seq #[.none,.none] }:=by rw [←n3];exact Heap.get?_push_size _ rfl
 have n4:(h3.push { cls:=.type "tuple",data:=.seq #[.none,.none] }).objs.size=n+4:=by rw [Heap.size_push,n3]
 have k4:∀c o,h3.get? c=some o→(h3.push { cls:=.type "tuple",data:=.seq #[.none,.none] }).get? c=some o:=fun c o e=>Heap.get?_push_of_some _ e
 generalize h3.push { cls:=.type "tuple",data:=.seq #[.none,.none] }=h4 at e4 n4 k4 ⊢
 have e5:(h4.push { cls:=.type "zip",data:=.fields #[.none,.bool false,.bool false,.ref (n+2),.ref (n+3)] }).get? (n+4)=some { cls:=.type "zip",data:=.fields #[.none,.bool false,.bool false,.ref (n+2),.ref (n+3)] }:=by rw [←n4];exact Heap.get?_push_size _ rfl
 have n5:(h4.push { cls:=.type "zip",data:=.fields #[.none,.bool false,.bool false,.ref (n+2),.ref (n+3)] }).objs.size=n+5:=by rw [Heap.size_push,n4]
 have k5:∀c o,h4.get? c=some o→(h4.push { cls:=.type "zip",data:=.fields #[.none,.bool false,.bool false,.ref (n+2),.ref (n+3)] }).get? c=some o:=fun c o e=>Heap.get?_push_of_some _ e
 generalize h4.push { cls:=.type "zip",data:=.fields #[.none,.bool false,.bool false,.ref (n+2),.ref (n+3)] }=h5 at e5 n5 k5 ⊢
 have up:∀c o,s.heap.get? c=some o→h5.get? c=some o:=fun c o e=>k5 _ _ (k4 _ _ (k3 _ _ (k2 _ _ (k1 _ _ e))))
 obtain ⟨o1,g1,r1⟩:=hl1
 obtain ⟨o2,g2,r2⟩:=hl2
 exact ⟨⟨_,e5,rfl⟩,h _ ⟨⟨.none,false,e5,.inl rfl⟩,⟨_,_,k5 _ _ e4⟩,k5 _ _ (k4 _ _ e3),⟨⟨_,k5 _ _ (k4 _ _ (k3 _ _ (k2 _ _ e1))),rfl,rfl⟩,⟨o1,up _ _ g1,r1⟩⟩,⟨⟨_,k5 _ _ (k4 _ _ (k3 _ _ e2)),rfl,rfl⟩,⟨o2,up _ _ g2,r2⟩⟩⟩ n5 up⟩
theorem Oi {l1 l2:Addr} {xs ys:Array Value} {Q:Value→Shared→Prop} (hl1:s.heap.IsList l1 xs) (hl2:s.heap.IsList l2 ys)
  (h:∀h',Zst false false (s.heap.objs.size+4) (s.heap.objs.size+2) (s.heap.objs.size+3) s.heap.objs.size (s.heap.objs.size+1) l1 l2 xs ys 0 h'→h'.objs.size=s.heap.objs.size+5→
   (∀c o,s.heap.get? c=some o→h'.get? c=some o)→Q (.ref (s.heap.objs.size+4)) { s with heap:=h' }):
  wpAny (model prog w) A (call (.type "zip") [.ref l1,.ref l2]) Q E s:=
 call_zip_2 hl1 hl2 fun h' a1 a2 a3 a4 a5 a6 keep=>h h' ⟨⟨.none,false,a1,.inl rfl⟩,⟨_,_,a3⟩,a2,⟨a4,hl1.at fun o e=>keep _ o e⟩,⟨a5,hl2.at fun o e=>keep _ o e⟩⟩ a6 keep
end
structure Mk (xs ys:Array Value) (lo:Addr) (h:Heap) (as:List Addr):Prop where
 nd:as.Nodup
 up:∀a∈as,lo < a
 at':∀(j:Nat) (a:Addr),as[j]?=some a→∃x y,xs[j]?=some x∧ys[j]?=some y∧IsPair h a x y
section
variable {prog:Program} {w:World} {A:Around} {s:Shared} {R:Result→Shared→Prop} {c1 c2:Bool} {z TI TO i1 i2 l1 l2 S:Addr} {xs ys:Array Value}
theorem loop (hh:A.handled=none) (D:ZipApart z TI TO i1 i2 l1 l2) (hS:S∉[z,TI,TO,i1,i2,l1,l2]) (lo:Addr) (hlo:z≤lo∧TO≤lo∧i1≤lo∧i2≤lo∧S≤lo) (hn:xs.size=ys.size) (hz:xs.size≤sizeLine) (res:Value) {h₁:Heap}
  (hR:∀h' tk acc c as,(∀b o,b∉[S,z,TO,i1,i2]→h₁.get? b=some o→h'.get? b=some o)→h'.get? S=some { cls:=.type "list",dict:=none,data:=.seq acc c,slots:=#[] }→as.length=xs.size→Mk xs ys lo h' as→
   acc.toList=as.map Value.ref→R (.ok (.ret res)) { s with heap:=h',toks:=tk }):
  ∀(k i:Nat) (h:Heap) (tk c:Nat) (acc:Array Value) (as:List Addr),xs.size - i=k→i≤xs.size→Zst c1 c2 z TI TO i1 i2 l1 l2 xs ys i h→(∀b o,b∉[S,z,TO,i1,i2]→h₁.get? b=some o→h.get? b=some o)→
   h.get? S=some { cls:=.type "list",dict:=none,data:=.seq acc c,slots:=#[] }→acc.toList=as.map Value.ref→as.length=i→Mk xs ys lo h as→lo < h.objs.size→
   codeAny (model prog w) A (.builtin "list.extend.loop" ⟨[.ref S,.ref z,res],[]⟩) R { s with heap:=h,toks:=tk }:=by
 simp only [List.mem_cons,List.not_mem_nil,or_false,not_or] at hS
 obtain ⟨Sz,STI,STO,S1,S2,Sl1,Sl2⟩:=hS
 intro k
 induction k with
 | zero=>
  intro i h tk c acc as hk hi hst hkeep hSl hacc hal hG hIs
  refine codeAny_builtin PySem.F.entry_extend_loop ?_
  rw [Around.under_plainId PySem.F.plain_extend_loop _]
  show wpAny _ A.in1 (pyNext (.ref z) >>=_) _ _ _
  refine wpAny_bind (pyFin (s:={ s with heap:=h,toks:=tk }) (A:=A.in1) hh D hst (Array.getElem?_eq_none (by omega)) fun h' he=>?_)
  refine wpAny_pure (hR h' tk acc c as (fun b o hb e=>?_) (he S _ Sz STO S1 S2 hSl) (by omega) ⟨hG.nd,hG.up,fun j a hj=>?_⟩ hacc)
  ·have hb':=hb
   simp only [List.mem_cons,List.not_mem_nil,or_false,not_or] at hb'
   exact he b o hb'.2.1 hb'.2.2.1 hb'.2.2.2.1 hb'.2.2.2.2 (hkeep b o hb e)
  ·obtain ⟨x,y,g1,g2,g3⟩:=hG.at' j a hj
   have u:=hG.up a (List.mem_of_getElem? hj)
   have ne:∀{c:Addr},c≤lo→a≠c:=fun q=>Nat.ne_of_gt (Nat.lt_of_le_of_lt q u)
   exact ⟨x,y,g1,g2,he a _ (ne hlo.1) (ne hlo.2.1) (ne hlo.2.2.1) (ne hlo.2.2.2.1) g3⟩
 | succ k ih=>
  intro i h tk c acc as hk hi hst hkeep hSl hacc hal hG hIs
  have hlt:i < xs.size:=by omega
  have hsz:acc.size=i:=by rw [←Array.length_toList,hacc,List.length_map,hal]
  refine codeAny_builtin PySem.F.entry_extend_loop ?_
  rw [Around.under_plainId PySem.F.plain_extend_loop _]
  show wpAny _ A.in1 (pyNext (.ref z) >>=_) _ _ _
  refine wpAny_bind (pyItem (s:={ s with heap:=h,toks:=tk }) D hst (Array.getElem?_eq_getElem hlt) (Array.getElem?_eq_getElem (by omega)) fun h' hst' ht hz' hkp=>?_)
  dsimp only at ht hz' hkp ⊢
  have hS':=hkp S _ Sz STO S1 S2 hSl
  have up:∀b o,b≠S→h'.get? b=some o→(h'.update S (Obj.mapSeq (·.push (Value.ref h.objs.size)))).get? b=some o:=fun b o hb e=>(Heap.get?_update_other _ _ (Ne.symm hb)).trans e
  have hSs:S < h.objs.size:=Heap.lt_size hSl
  show wpAny _ A.in1 (updateSeq S (·.push (Value.ref h.objs.size)) >>=_) _ _ _
  refine wpAny_bind ?_
  refine wpAny_updateSeq hS' rfl (wpAny_pure ⟨plainId_quiet PySem.F.plain_extend_loop _,ih (i+1) _ tk _ (acc.push (Value.ref h.objs.size)) (as++[h.objs.size]) (by omega) hlt
   (hst'.keep (fun b hb o e=>up b o (fun x=>by subst x;simp only [List.mem_cons,List.not_mem_nil,or_false] at hb;rcases hb with q | q | q | q | q <;> exact absurd q (by assumption)) e) (fun o e=>up _ o (Ne.symm Sl1) e) fun o e=>up _ o (Ne.symm Sl2) e)
   (fun b o hb e=>?_) (Heap.get?_update_self _ hS' rfl) (by rw [Array.toList_push,hacc,List.map_append];rfl) (by rw [List.length_append,hal];rfl) ⟨?_,?_,?_⟩ ?_⟩) (by rw [hsz];omega) (by show (acc.push (Value.ref h.objs.size)).size≤sizeLine+1;rw [Array.size_push,hsz];omega)
  ·have hb':=hb
   simp only [List.mem_cons,List.not_mem_nil,or_false,not_or] at hb'
   exact up b o hb'.1 (hkp b o hb'.2.1 hb'.2.2.1 hb'.2.2.2.1 hb'.2.2.2.2 (hkeep b o hb e))
  ·refine List.nodup_append.mpr ⟨hG.nd,(by simp),fun a ha b hb=>?_⟩
   rw [List.mem_singleton.mp hb]
   obtain ⟨j,hj⟩:=List.mem_iff_getElem?.mp ha
   obtain ⟨_,_,_,_,e3⟩:=hG.at' j a hj
   exact Nat.ne_of_lt (Heap.lt_size e3)
  ·intro a ha
   rcases List.mem_append.mp ha with ha | ha
   ·exact hG.up a ha
   ·rw [List.mem_singleton.mp ha];exact hIs
  ·intro j b hj
   rcases Nat.lt_trichotomy j as.length with g | g | g
   ·rw [List.getElem?_append_left g] at hj
    obtain ⟨x,y,e1,e2,e3⟩:=hG.at' j b hj
    have u:=hG.up b (List.mem_of_getElem? hj)
    have ne:∀{c:Addr},c≤lo→b≠c:=fun q=>Nat.ne_of_gt (Nat.lt_of_le_of_lt q u)
    exact ⟨x,y,e1,e2,up b _ (ne hlo.2.2.2.2) (hkp b _ (ne hlo.1) (ne hlo.2.1) (ne hlo.2.2.1) (ne hlo.2.2.2.1) e3)⟩
   ·subst g
    have hb:h.objs.size=b:=by simpa using hj
    subst hb
    exact ⟨_,_,by rw [hal];exact Array.getElem?_eq_getElem hlt,by rw [hal];exact Array.getElem?_eq_getElem (by omega),up _ _ (Nat.ne_of_gt hSs) ht⟩
   ·have hnone:(as++[h.objs.size])[j]?=none:=List.getElem?_eq_none (by rw [List.length_append,List.length_singleton];omega)
    rw [hnone] at hj;cases hj
  ·rw [Heap.size_update,hz']
   exact Nat.lt_succ_of_lt hIs
end
theorem no_len:typeLookup (.type "zip") "__len__"=pure none:=by rw [typeLookup_type,builtinLookup_eq_fast];kernel_rfl
theorem N8:typeLookup (.type "zip") "__length_hint__"=pure none:=by rw [typeLookup_type,builtinLookup_eq_fast];kernel_rfl
section
variable {prog:Program} {w:World} {A:Around} {E:Value→Shared→Prop} {s:Shared} {c1 c2:Bool} {z TI TO i1 i2 l1 l2:Addr} {xs ys:Array Value}
theorem extend {R:Result→Shared→Prop} (hh:A.handled=none) (D:ZipApart z TI TO i1 i2 l1 l2) (hz:Zst c1 c2 z TI TO i1 i2 l1 l2 xs ys 0 s.heap) (S:Addr) (hS:S∉[z,TI,TO,i1,i2,l1,l2]) (lo:Addr) (hlo:z≤lo∧TO≤lo∧i1≤lo∧i2≤lo∧S≤lo) (hls:lo < s.heap.objs.size) (hn:xs.size=ys.size) (hsz:xs.size≤sizeLine) (res:Value) (c₀:Nat) (hSl:s.heap.get? S=some { cls:=.type "list",data:=.seq #[] c₀ })
  (hR:∀h' tk acc c as,(∀b o,b∉[S,z,TO,i1,i2]→s.heap.get? b=some o→h'.get? b=some o)→h'.get? S=some { cls:=.type "list",dict:=none,data:=.seq acc c,slots:=#[] }→as.length=xs.size→Mk xs ys lo h' as→
   acc.toList=as.map Value.ref→R (.ok (.ret res)) { s with heap:=h',toks:=tk }):
  wpAny (model prog w) A.in1 (Builtin.List.listExtendWith (.ref S) (.ref z) res)
   (fun fin s'=>match fin with | .done f=>R (.ok f) s' | .again c'=>c'.quiet=true∧codeAny (model prog w) A c' R s') (fun e s'=>R (.error e) s') s:=by
 have hT:s.TypeIs (.ref z) "zip":=by obtain ⟨⟨f0,b,z0,_⟩,_⟩:=hz;exact ⟨_,z0,rfl⟩
 have hSz:S≠z:=fun e=>hS (by simp [e])
 unfold Builtin.List.listExtendWith
 refine wpAny_bind (wpAny_typeOf hT ?_)
 have h1:Builtin.List.listSameRef (.ref S) (.ref z)=false:=by simp [Builtin.List.listSameRef,hSz]
 have h2:(Value.type "zip"==Value.type "list")=false:=by decide
 have h3:(Value.type "zip"==Value.type "tuple")=false:=by decide
 simp only [h1,h2,h3,Bool.or_false,Bool.false_eq_true,if_false]
 refine wpAny_bind (pySelf hz ?_)
 refine wpAny_bind (wpAny_holding ?_)
 unfold Builtin.List.listLengthHint
 refine wpAny_bind (wpAny_specialOf hT no_len ?_)
 show wpAny _ A.in1 (specialOf (Value.ref z) (Str.ofString "__length_hint__") >>=_) _ _ _
 refine wpAny_bind (wpAny_specialOf hT N8 ?_)
 refine wpAny_pure ?_
 show wpAny _ A.in1 (rule "list.extend.makes-room" >>=fun _=>Builtin.List.listTouch (.ref S) >>=fun _=>again (.builtin "list.extend.loop" ⟨[.ref S,.ref z,res],[]⟩)) _ _ _
 refine wpAny_bind (wpAny_rule ?_)
 refine wpAny_bind ?_
 show wpAny _ A.in1 (updateSeq S (·.push .none) >>=fun _=>updateSeq S (·.pop)) _ _ _
 refine wpAny_bind (wpAny_updateSeq hSl rfl ?_)
 have hS₂:=Heap.get?_update_self (Obj.mapSeq (·.push Value.none)) hSl rfl
 refine wpAny_updateSeq (hz:=by seq_fits) hS₂ rfl ?_
 have hS₃:=Heap.get?_update_self (Obj.mapSeq (·.pop)) hS₂ rfl
 have oth:∀b o,b≠S→s.heap.get? b=some o→((s.heap.update S (Obj.mapSeq (·.push Value.none))).update S (Obj.mapSeq (·.pop))).get? b=some o:=fun b o hb e=>(Heap.get?_update_other _ _ (Ne.symm hb)).trans ((Heap.get?_update_other _ _ (Ne.symm hb)).trans e)
 have hS':=hS
 simp only [List.mem_cons,List.not_mem_nil,or_false,not_or] at hS'
 refine wpAny_pure ⟨plainId_quiet PySem.F.plain_extend_loop _,loop (s:=s) (h₁:=s.heap) hh D hS lo hlo hn hsz res hR xs.size 0 _ _ _ #[] [] (Nat.sub_zero _) (Nat.zero_le _) (hz.keep (fun b hb o e=>oth b o (fun x=>?_) e) (fun o e=>oth _ o (Ne.symm hS'.2.2.2.2.2.1) e) fun o e=>oth _ o (Ne.symm hS'.2.2.2.2.2.2) e) (fun b o hb e=>oth b o (fun x=>hb (by simp [x])) e) hS₃ rfl rfl ⟨List.nodup_nil,(fun _ ha=>nomatch ha),(fun j a hj=>by simp at hj)⟩ ?_⟩
 ·subst x
  simp only [List.mem_cons,List.not_mem_nil,or_false] at hb
  rcases hb with q | q | q | q | q
  ·exact hS'.1 q
  ·exact hS'.2.1 q
  ·exact hS'.2.2.1 q
  ·exact hS'.2.2.2.1 q
  ·exact hS'.2.2.2.2.1 q
 ·rw [Heap.size_update,Heap.size_update]
  exact hls
theorem Nt {Q:Value→Shared→Prop} (hh:A.handled=none) (D:ZipApart z TI TO i1 i2 l1 l2) (hz:Zst c1 c2 z TI TO i1 i2 l1 l2 xs ys 0 s.heap) (hlt:∀b∈[z,TI,TO,i1,i2,l1,l2],b < s.heap.objs.size) (hn:xs.size=ys.size) (hsz:xs.size≤sizeLine)
  (hQ:∀h' tk acc c as,(∀b o,b∉[z,TO,i1,i2]→s.heap.get? b=some o→h'.get? b=some o)→h'.get? s.heap.objs.size=some { cls:=.type "list",dict:=none,data:=.seq acc c,slots:=#[] }→as.length=xs.size→Mk xs ys s.heap.objs.size h' as→
   acc.toList=as.map Value.ref→Q (.ref s.heap.objs.size) { s with heap:=h',toks:=tk }):
  wpAny (model prog w) A (call (.type "list") [.ref z]) Q E s:=by
 refine callType_codes (Q₁:=fun obj s₁=>obj=.ref s.heap.objs.size∧s₁={ s with heap:=s.heap.push { cls:=.type "list",data:=.seq #[] } }) PySem.F.called_list (PySem.F.typeCall_list_1 _) PySem.F.entry_list_init
  (code_list_new _ ⟨rfl,rfl⟩) fun obj s₁ h₁=>?_
 obtain ⟨rfl,rfl⟩:=h₁
 have hS:(s.heap.push { cls:=.type "list",data:=.seq #[] }).get? s.heap.objs.size=some { cls:=.type "list",data:=.seq #[] }:=Heap.get?_push_size _ rfl
 have hSf:s.heap.objs.size∉[z,TI,TO,i1,i2,l1,l2]:=fun e=>Nat.lt_irrefl _ (hlt _ e)
 have hz1:=hz.keep (h':=s.heap.push { cls:=.type "list",data:=.seq #[] }) (fun b _ o e=>Heap.get?_push_of_some _ e) (fun o e=>Heap.get?_push_of_some _ e) fun o e=>Heap.get?_push_of_some _ e
 refine ⟨⟨_,hS,rfl⟩,PySem.F.args_list_init_2 _ _,?_⟩
 have z1:=hlt z (by simp)
 have z2:=hlt TO (by simp)
 have z3:=hlt i1 (by simp)
 have z4:=hlt i2 (by simp)
 show wpAny _ _ (do let old ←Builtin.List.listItems (.ref s.heap.objs.size);Builtin.List.listUpdate (.ref s.heap.objs.size) (fun _=>#[]);letGo old.toList.reverse;Builtin.List.listExtendWith (.ref s.heap.objs.size) (.ref z) .none) _ _ _
 refine wpAny_bind ?_
 unfold Builtin.List.listItems
 refine wpAny_bind (wpAny_seqItems hS rfl (wpAny_pure ?_))
 show wpAny _ _ (updateSeq s.heap.objs.size (fun _=>#[]) >>=fun _=>letGo (#[]:Array Value).toList.reverse >>=fun _=>Builtin.List.listExtendWith (.ref s.heap.objs.size) (.ref z) .none) _ _ _
 refine wpAny_bind (wpAny_updateSeq hS rfl ?_)
 have hS₂:=Heap.get?_update_self (Obj.mapSeq (fun _=>(#[]:Array Value))) hS rfl
 have oth:∀b o,b≠s.heap.objs.size→(s.heap.push { cls:=.type "list",data:=.seq #[] }).get? b=some o→((s.heap.push { cls:=.type "list",data:=.seq #[] }).update s.heap.objs.size (Obj.mapSeq (fun _=>(#[]:Array Value)))).get? b=some o:=fun b o hb e=>(Heap.get?_update_other _ _ (Ne.symm hb)).trans e
 refine wpAny_bind (wpAny_letGo ?_)
 refine extend (A:=A.in1) hh D (hz1.keep (fun b hb o e=>oth b o (Nat.ne_of_lt (hlt b (by simp only [List.mem_cons,List.not_mem_nil,or_false] at hb ⊢;rcases hb with q | q | q | q | q <;> simp [q]))) e) (fun o e=>oth _ o (Nat.ne_of_lt (hlt l1 (by simp))) e) fun o e=>oth _ o (Nat.ne_of_lt (hlt l2 (by simp))) e) _ hSf s.heap.objs.size ⟨Nat.le_of_lt z1,Nat.le_of_lt z2,Nat.le_of_lt z3,Nat.le_of_lt z4,Nat.le_refl _⟩ (by show _ < (Heap.update _ _ _).objs.size;rw [Heap.size_update,Heap.size_push];exact Nat.lt_succ_self _) hn hsz .none _ hS₂ fun h' tk acc c as hk hS' hl hG hacc=>?_
 exact ⟨rfl,hQ h' tk acc c as (fun b o hb e=>hk b o (fun x=>by
  rcases List.mem_cons.mp x with q | q
  ·exact Nat.lt_irrefl _ (q ▸ Heap.lt_size e)
  ·exact hb q) (oth b o (Nat.ne_of_lt (Heap.lt_size e)) (Heap.get?_push_of_some _ e))) hS' hl hG hacc⟩
end
end L2.Zg
namespace L2
open PySem PySem.Spec PyProof.Rows Zd Zg
theorem b_zip0:bootBuiltins "zip"=some (.type "zip"):=by decide+kernel
def SqB (K:PySem.W.Frag):Bool→Hp→Addr→List V→Prop
 | true,H,a,xs=>SqT K H a xs
 | false,H,a,xs=>SqL K H a xs
def itB:Bool→Heap→Addr→Addr→Nat→Prop
 | true,h,it,l,i=>h.IsTupleIter it l i
 | false,h,it,l,i=>h.IsListIter it l i
section
variable {X:Cx} {pins:List (Addr×Obj)} {σ:St} {H:Hp} {s:Shared}
theorem Inv.sqB (I:Inv X pins σ H s) {b:Bool} {a:Addr} {xs:List V} (h:SqB X.K b H a xs):∃its:List Value,Vals xs its∧xs.length≤sizeLine∧a < s.heap.objs.size∧(∀it i,itB b s.heap it a i→Hf b it a its.toArray i s.heap)∧(b=true→s.heap.IsTuple a its.toArray)∧(b=false→s.heap.IsList a its.toArray):=by
 cases b
 ·obtain ⟨its,r,p,z⟩:=I.list h
  refine ⟨its,r,z,?_,fun it i q=>⟨q,p.isList⟩,(fun e=>nomatch e),fun _=>p.isList⟩
  obtain ⟨o,e,_⟩:=p.isList
  exact Heap.lt_size e
 ·obtain ⟨its,r,p,z⟩:=I.tuple h
  refine ⟨its,r,z,?_,fun it i q=>⟨q,p⟩,(fun _=>p),(fun e=>nomatch e)⟩
  obtain ⟨o,e,_⟩:=p
  exact Heap.lt_size e
end
section
variable {X:Cx}
theorem Dh {pins:List (Addr×Obj)} {σ:St} {H:Hp} {s:Shared} {c:Bool} {l1 l2:Addr} {xs ys:List V} {A:Around} {E:Value→Shared→Prop} {Q:Value→Shared→Prop} (I:Inv X pins σ H s) (h1:SqB X.K c H l1 xs) (h2:SqL X.K H l2 ys)
  (q:∀(u v:List Value) (h':Heap),Vals xs u→Vals ys v→Zst c false (s.heap.objs.size+4) (s.heap.objs.size+2) (s.heap.objs.size+3) s.heap.objs.size (s.heap.objs.size+1) l1 l2 u.toArray v.toArray 0 h'→h'.objs.size=s.heap.objs.size+5→(∀c o,s.heap.get? c=some o→h'.get? c=some o)→l1 < s.heap.objs.size→l2 < s.heap.objs.size→Q (.ref (s.heap.objs.size+4)) { s with heap:=h' }):
  wpAny (model X.prog X.w) A (call (.type "zip") [.ref l1,.ref l2]) Q E s:=by
 obtain ⟨u,ru,_,lt1,_,t1,g1⟩:=I.sqB h1
 obtain ⟨v,rv,_,lt2,_,t2,g2⟩:=I.sqB (b:=false) h2
 cases c with
 | true=>exact O6 (t1 rfl) (g2 rfl) fun h' a b d=>q u v h' ru rv a b d lt1 lt2
 | false=>exact Oi (g1 rfl) (g2 rfl) fun h' a b d=>q u v h' ru rv a b d lt1 lt2
end
noncomputable def gx (H:Hp) (N:Addr→Option HO):Hp:=fun b=>match N b with | some o=>some o | none=>H b
theorem Inv.many {X:Cx} {pins:List (Addr×Obj)} {σ:St} {H:Hp} {s:Shared} {h':Heap} {t':Nat} {N:Addr→Option HO} (I:Inv X pins σ H s) (k:∀b u,s.heap.get? b=some u→h'.get? b=some u) (hp:∀a o,N a=some o→s.heap.objs.size≤a) (new:∀a o,N a=some o→bp X.prog X.w (gx H N) h' a o):
  Inv X pins σ (gx H N) { s with heap:=h',toks:=t' }:=by
 have old:∀b,b < s.heap.objs.size→gx H N b=H b:=fun b hb=>by
  unfold gx
  cases e:N b with
  | none=>rfl
  | some o=>exact absurd (Nat.lt_of_lt_of_le hb (hp b o e)) (Nat.lt_irrefl _)
 have tr:∀b u,H b=some u→gx H N b=some u:=fun b u e=>by rw [old b (I.hok.lt e)];exact e
 refine I.step (g':=s.gens) (d':=s.drawn) (ch:=[]) (fun b hb=>nomatch hb) (fun b o _ _ _ e _=>k b o e) (fun b o _ _ _ e _=>⟨o.slots,k b o e⟩) (fun b o _ e n=>by rw [old b (Heap.lt_size e)];exact n)
  (fun b o _ e=>⟨o,k b o e⟩) (fun b xs e=>tr b _ e) (fun b o u e=>tr b _ e) (fun b ps e=>⟨#[],by rw [tr b _ e];simp⟩) (fun m hm=>hm.at fun o e=>k _ o e) (fun b u e=>?_) I.bare
 cases en:N b with
 | some o=>
  have:gx H N b=some o:=by unfold gx;rw [en]
  rw [this] at e
  cases e
  exact new b _ en
 | none=>
  have:gx H N b=H b:=by unfold gx;rw [en]
  rw [this] at e
  exact (I.hok b u e).yn (fun c v _ q=>k c v q) (fun c q=>tr c _ q) fun c xs q=>tr c _ q
theorem ua {β:Type}:∀{as:List Addr} {ps:List β},as.Nodup→∀{j:Nat} {a:Addr} {p:β},as[j]?=some a→ps[j]?=some p→(as.zip ps).lookup a=some p
 | [],_,_,j,a,p,h,_=>by simp at h
 | _::_,[],_,j,a,p,_,h=>by simp at h
 | b::as,q::ps,nd,0,a,p,h1,h2=>by
  simp at h1 h2
  subst h1 h2
  simp [List.lookup]
 | b::as,q::ps,nd,j+1,a,p,h1,h2=>by
  simp only [List.getElem?_cons_succ] at h1 h2
  have hn:=List.nodup_cons.mp nd
  have ne:a≠b:=fun e=>hn.1 (e ▸ List.mem_of_getElem? h1)
  rw [List.zip_cons_cons,List.lookup_cons]
  simp only [show (a==b)=false from beq_eq_false_iff_ne.mpr ne]
  exact ua hn.2 h1 h2
theorem t7 {β:Type}:∀{as:List Addr} {ps:List β} {a:Addr} {p:β},(as.zip ps).lookup a=some p→∃j:Nat,as[j]?=some a∧ps[j]?=some p
 | [],_,a,p,h=>by simp at h
 | _::_,[],a,p,h=>by simp at h
 | b::as,q::ps,a,p,h=>by
  rw [List.zip_cons_cons,List.lookup_cons] at h
  by_cases e:a=b
  ·simp only [show (a==b)=true from beq_iff_eq.mpr e] at h
   cases h
   exact ⟨0,by rw [e];rfl,rfl⟩
  ·simp only [show (a==b)=false from beq_eq_false_iff_ne.mpr e] at h
   obtain ⟨j,h1,h2⟩:=t7 h
   exact ⟨j+1,h1,h2⟩
theorem pf:∀as:List Addr,Vals (as.map V.ref) (as.map Value.ref)
 | []=>.nil
 | _::as=>.cons rfl (pf as)
def tLZ (K:PySem.W.Frag) (ta:TA):TE:=fun σ H Q=>ta σ H fun vs H1=>∃(l1 l2:Addr) (xs ys:List V),vs=[.ref l1,.ref l2]∧SqT K H1 l1 xs∧SqL K H1 l2 ys∧xs.length=ys.length∧
 ∀(l:Addr) (as:List Addr) (H2:Hp),ao H1 H2→H1 l=none→as.length=xs.length→H2 l=some (.lst (as.map V.ref))→(∀(j:Nat) (x y:V),xs[j]?=some x→ys[j]?=some y→∃a,as[j]?=some a∧H2 a=some (.tup [x,y]))→Q (.ref l) H2
section
variable {X:Cx}
theorem ub {a b:Expr} {ta:TA} {p p2 pos pos2:Pos} (hc:X.calm=true) (hg:Gl X "list") (hm:X.mg "list"=none) (hg2:Gl X "zip") (hm2:X.mg "zip"=none) (ha:PA X [a,b] ta)
  (hs:starEach [.Call (.Name "zip" p2) [a,b] [] pos2] X.env=[(false,eval (.Call (.Name "zip" p2) [a,b] [] pos2) X.env)]:=by rfl) (hs2:starEach [a,b] X.env=(false,eval a X.env)::starEach [b] X.env:=by rfl) (hpl:(backTo pos2 (starEach [b] X.env)).any (·.1)=false:=by rfl):
  PE X (.Call (.Name "list" p) [.Call (.Name "zip" p2) [a,b] [] pos2] [] pos) (tLZ X.K ta):=by
 intro pins s σ H Q I h
 refine wpAny_Call_Name_kw (jw I hg hm mj ?_)
 refine PyProof.Rows.callWith_type1 ?_ hs rfl
 rw [hs]
 show wpAny _ _ (spliced ((false,eval _ X.env)::backTo pos [])) _ _ s
 refine Calls.spliced_cons ?_
 refine wpAny_Call_Name_kw (jw I hg2 hm2 b_zip0 ?_)
 refine PyProof.Rows.callWith_type1 (thn (ha pos2 pins s σ H _ I h) fun us s1 ⟨vs,H1,I1,r1,q1⟩=>?_) hs2 hpl
 obtain ⟨l1,l2,xs,ys,rfl,e1,e2,hl,q⟩:=q1
 obtain ⟨u1,u2,rfl,ru1,ru2⟩:=vals2 r1
 cases ru1
 cases ru2
 have zl:xs.length≤sizeLine:=by obtain ⟨_,_,_,z⟩:=I1.tuple e1;exact z
 refine Dh (c:=true) I1 e1 e2 fun u v h' ru rv zs hz keep lt1 lt2=>Calls.spliced_nil ?_
 have n1:=ru.length
 have n2:=rv.length
 refine Nt (s:={ s1 with heap:=h' }) (I1.ok.hd hc) (zipApart_new lt1 lt2) zs (fun b hb=>?_) (by rw [List.size_toArray,List.size_toArray];omega) (by rw [List.size_toArray];omega) fun h2 tk acc c as kp hL hal hM hacc=>?_
 ·have hz':(Shared.heap { s1 with heap:=h' }).objs.size=s1.heap.objs.size+5:=hz
  rw [hz']
  simp only [List.mem_cons,List.not_mem_nil,or_false] at hb
  rcases hb with rfl | rfl | rfl | rfl | rfl | rfl | rfl
  ·exact Nat.add_lt_add_left (by decide) _
  ·exact Nat.add_lt_add_left (by decide) _
  ·exact Nat.add_lt_add_left (by decide) _
  ·exact Nat.lt_add_of_pos_right (by decide)
  ·exact Nat.add_lt_add_left (by decide) _
  ·exact Nat.lt_of_lt_of_le lt1 (Nat.le_add_right _ _)
  ·exact Nat.lt_of_lt_of_le lt2 (Nat.le_add_right _ _)
 have hM:Zg.Mk u.toArray v.toArray h'.objs.size h2 as:=hM
 have kp:∀b o,b∉[s1.heap.objs.size+4,s1.heap.objs.size+3,s1.heap.objs.size,s1.heap.objs.size+1]→h'.get? b=some o→h2.get? b=some o:=kp
 have hL:h2.get? h'.objs.size=some { cls:=.type "list",dict:=none,data:=.seq acc c,slots:=#[] }:=hL
 rw [List.size_toArray] at hal
 have le:s1.heap.objs.size≤h'.objs.size:=by rw [hz];exact Nat.le_add_right _ _
 have k2:∀b o,s1.heap.get? b=some o→h2.get? b=some o:=fun b o e=>kp b o (fun z=>by
  have lt:=Heap.lt_size e
  simp only [List.mem_cons,List.not_mem_nil,or_false] at z
  rcases z with rfl | rfl | rfl | rfl
  ·exact absurd lt (Nat.not_lt.mpr (Nat.le_add_right _ _))
  ·exact absurd lt (Nat.not_lt.mpr (Nat.le_add_right _ _))
  ·exact absurd lt (Nat.lt_irrefl _)
  ·exact absurd lt (Nat.not_lt.mpr (Nat.le_add_right _ _))) (keep b o e)
 let N:Addr→Option HO:=fun b=>if b=h'.objs.size then some (.lst (as.map V.ref)) else ((as.zip (xs.zip ys)).lookup b).map fun p=>.tup [p.1,p.2]
 have Nl:N h'.objs.size=some (.lst (as.map V.ref)):=if_pos rfl
 have Na:∀(j:Nat) (a:Addr) (x y:V),as[j]?=some a→xs[j]?=some x→ys[j]?=some y→N a=some (.tup [x,y]):=fun j a x y h1 h3 h4=>by
  show (if a=h'.objs.size then _ else _)=_
  rw [if_neg (Nat.ne_of_gt (hM.up a (List.mem_of_getElem? h1)))]
  have:(xs.zip ys)[j]?=some (x,y):=List.getElem?_zip_eq_some.mpr ⟨h3,h4⟩
  rw [ua hM.nd h1 this]
  rfl
 have inv:∀a o,N a=some o→(a=h'.objs.size∧o=.lst (as.map V.ref))∨∃(j:Nat) (x y:V),as[j]?=some a∧xs[j]?=some x∧ys[j]?=some y∧o=.tup [x,y]:=fun a o e=>by
  by_cases h:a=h'.objs.size
  ·subst h
   rw [Nl] at e
   exact .inl ⟨rfl,(Option.some.inj e).symm⟩
  ·have e:(if a=h'.objs.size then _ else ((as.zip (xs.zip ys)).lookup a).map fun p=>HO.tup [p.1,p.2])=some o:=e
   rw [if_neg h] at e
   obtain ⟨⟨x,y⟩,h1,h2⟩:=Option.map_eq_some_iff.mp e
   obtain ⟨j,g1,g2⟩:=t7 h1
   obtain ⟨g3,g4⟩:=List.getElem?_zip_eq_some.mp g2
   exact .inr ⟨j,x,y,g1,g3,g4,h2.symm⟩
 have lo:∀a o,N a=some o→s1.heap.objs.size≤a:=fun a o e=>by
  rcases inv a o e with ⟨rfl,_⟩ | ⟨j,x,y,h1,_⟩
  ·exact le
  ·exact Nat.le_trans le (Nat.le_of_lt (hM.up a (List.mem_of_getElem? h1)))
 have I2:Inv X pins σ (gx H1 N) { s1 with heap:=h2,toks:=tk }:=I1.many k2 lo fun a o e=>by
  rcases inv a o e with ⟨rfl,rfl⟩ | ⟨j,x,y,h1,h3,h4,rfl⟩
  ·refine ⟨by rw [List.length_map];omega,acc.toList,c,?_,by rw [Array.toArray_toList];exact hL⟩
   rw [hacc]
   exact pf as
  ·obtain ⟨x',y',g1,g2,g3⟩:=hM.at' j a h1
   obtain ⟨xu,hxu,rxu⟩:=ru.get h3
   obtain ⟨yu,hyu,ryu⟩:=rv.get h4
   rw [List.getElem?_toArray] at g1 g2
   rw [hxu] at g1
   rw [hyu] at g2
   cases g1
   cases g2
   exact ⟨by show (2:Nat)≤sizeLine;decide,[x',y'],.cons rxu (.cons ryu .nil),⟨_,g3,rfl,_,rfl,rfl⟩⟩
 have same:ao H1 (gx H1 N):=fun b o e=>by
  have lt:=I1.hok.lt e
  unfold gx
  cases en:N b with
  | none=>exact e
  | some o'=>exact absurd (Nat.lt_of_lt_of_le lt (lo b o' en)) (Nat.lt_irrefl _)
 refine ⟨.ref h'.objs.size,_,I2,rfl,q _ as _ same (I1.hok.fresh le) (by omega) (by unfold gx;rw [Nl]) fun j x y h3 h4=>?_⟩
 have hj:j < as.length:=by rw [hal,←n1];exact (List.getElem?_eq_some_iff.mp h3).1
 refine ⟨as[j],List.getElem?_eq_getElem hj,?_⟩
 unfold gx
 rw [Na j as[j] x y (List.getElem?_eq_getElem hj) h3 h4]
end
end L2
namespace L2.Zd
open PySem
theorem vd:entryFor table "dict.update.loop"=some Builtin.«dict.update.loop»:=entryFor_of_tree (by kernel_rfl)
theorem jg:plainId "dict.update.loop"=true:=by decide+kernel
section
variable {prog:Program} {w:World} {A:Around} {E:Value→Shared→Prop} {s:Shared} {d z TI TO i1 i2 l1 l2:Addr} {xs ys:Array Value} {i:Nat}
end
end L2.Zd
namespace L2.Zd
open PySem PyProof.Rows
theorem zb:typeLookup (.type "list") "keys"=pure none:=by rw [typeLookup_type,builtinLookup_eq_fast];kernel_rfl
section
variable {prog:Program} {w:World} {A:Around} {E:Value→Shared→Prop} {s:Shared}
theorem Ah (a:Addr) (vs:Array Value) (n:Nat) (u:Tok):
  Meets (Builtin.«object.__getattribute__» ⟨[.ref a,.str "keys" u],[]⟩) (fun A R s=>s.heap.get? a=some { cls:=.type "list",dict:=none,data:=.seq vs n,slots:=#[] }∧raisesAttr (.ref a) "keys" A R s):=
 meets_getattribute_miss_list a vs n #[] "keys" u zb (by decide+kernel) (by decide+kernel)
theorem Lv {a:Addr} {vs:Array Value} {n:Nat} {Q:Option Value→Shared→Prop} (hx:s.heap.get? a=some { cls:=.type "list",dict:=none,data:=.seq vs n,slots:=#[] }) (hA:A.handled=none)
  (h:∀h' tk,(∀b o,s.heap.get? b=some o→h'.get? b=some o)→Q none { s with heap:=h',toks:=tk }):wpAny (model prog w) A (getAttr? (.ref a) "keys") Q E s:=by
 obtain ⟨hp,g,d,tk,os⟩:=s
 have hT:∀tk',(⟨hp,g,d,tk',os⟩:Shared).TypeIs (.ref a) "list":=fun _=>⟨_,hx,rfl⟩
 have f1:=sub_AttributeError
 have f3:=F.slot_list_getattribute.lookup
 have f4:=F.slot_list_getattribute.bind (.ref a)
 have f5:=am_list_getattr_none
 unfold getAttr? getAttrBy? getAttrBy
 repeat (any_goals (first | assumption | exact hT _ | ((with_reducible show wpAny _ _ (call (Value.builtin "list.__getattribute__") _ _) _ _ _);refine call_meets F.slot_list_getattribute (hT _) am_entry_list_getattribute (F.args_list_getattribute_2 _ _) (Ah a vs n _) ⟨hx,hA,fun h' tk' e hx'=>?_⟩) | wp_step))
 obtain ⟨t',u',he⟩:=hx'.there
 show wpAny _ _ (getattributeRaised _ _ _ _ _ _ _) _ _ _
 unfold getattributeRaised
 repeat (any_goals (first | assumption | wp_step))
 exact h h' tk' hx'.keeps
end
end L2.Zd
namespace L2
open PySem PySem.Spec PyProof.Rows
theorem Jd {K:PySem.W.Frag} {a:Addr} {xs:List V} {fr:L2.St} {tc:TT} {te:TE} {D:Addr} {H1:Hp} {Q:Hp→Prop} (P:Nat→List V→Hp→Prop) (mono:∀i ys H H',TK H H'→P i ys H→P i ys H') (hS:SqL K H1 a xs) (hn:xs.length < sizeLine) (hD:H1 D=none) (h0:P 0 [] H1)
  (step:∀i x ys H (G:Hp→Prop) (K':V→Hp→Prop),xs[i]?=some x→P i ys H→ys.length≤i→ao H1 H→(∀H3,ao H H3→P (i+1) ys H3→G H3)→(∀y H4,ao H H4→P (i+1) (ys++[y]) H4→K' y H4)→tc ([some x]++fr) H fun b H3=>if b=true then te ([some x]++fr) H3 K' else G H3)
  (done:∀ys H,P xs.length ys H→ys.length≤xs.length→ao H1 H→H D=some (.lst ys)→Q H):LC 1 fr (ck 0) tc te (Itl K a) D H1 Q:=by
 have at':∀i,i < xs.length→xs[i]?=some (xs.getD i .non):=fun i hi=>by
  rw [List.getD_eq_getElem?_getD,List.getElem?_eq_getElem hi]
  rfl
 exact M1 xs.length (fun i=>xs.getD i .non) P mono hn hD (fun i H hi hs=>⟨xs,_,hs.seq hS,at' i hi⟩)
  (fun i H x H' hi hs hy=>⟨hy.1,Option.some.inj ((hy.2 xs (hs.seq hS)).symm.trans (at' i hi))⟩) (fun H hs=>⟨xs,hs.seq hS,Nat.le_refl _⟩) h0
  (fun i ys H G K' hi hP hl hs hG hK=>step i _ ys H G K' (at' i hi) hP hl hs hG hK) done
end L2
namespace L2
open PySem PySem.Spec PyProof.Rows
section
variable {X:Cx} {pos:Pos} {tg:Expr}
theorem Ed (K:PySem.W.Frag) (hK:X.K=K) {es:List Expr} {k:Nat} {t:TGs} {n:Nat} (hc:X.calm=true) (h:PGs X es t) (hn:(assignEach es X.env).length=n:=by rfl) (hst:(assignEach es X.env).findIdx? (·.1)=none:=by rfl):PG X (.Tuple es k pos) (Cg K n t):=by
 subst hK
 exact Jo hc h hn hst
theorem wo (n:Nat):Builtin.Range.rangeSize ((n:Int) - 1) (-1) (-1)=n:=by
 unfold Builtin.Range.rangeSize
 cases n with
 | zero=>decide
 | succ n=>
  simp
  omega
theorem Jg {n:Nat} (h:n < 2 ^ 62):Builtin.Range.small ((n:Int) - 1) (-1) (-1)=true:=by
 unfold Builtin.Range.small
 rw [wo]
 have e1:Builtin.Range.rangeFitsLong ((n:Int) - 1)=true:=by
  unfold Builtin.Range.rangeFitsLong
  rw [decide_eq_true (show -(2:Int) ^ 63≤(n:Int) - 1 by omega),decide_eq_true (show (n:Int) - 1 < (2:Int) ^ 63 by omega)]
  rfl
 have e2:Builtin.Range.rangeFitsLong (n:Int)=true:=by
  unfold Builtin.Range.rangeFitsLong
  rw [decide_eq_true (show -(2:Int) ^ 63≤(n:Int) by omega),decide_eq_true (show (n:Int) < (2:Int) ^ 63 by omega)]
  rfl
 rw [e1,e2,show Builtin.Range.rangeFitsLong (-1)=true by decide,if_neg (by decide),show Builtin.Range.rangeFitsLong (-1+(-1+1))=true by decide]
 simp
def iDn (ta:TA):TI:=fun σ H R=>ta σ H fun vs H1=>∃n:Nat,vs=[.int ((n:Int) - 1),.int (-1),.int (-1)]∧n < 2 ^ 62∧R (Itd n) H1
theorem Hi {a b c:Expr} {ta:TA} {p pos:Pos} (hg:Gl X "range") (hm:X.mg "range"=none) (ha:PA X [a,b,c] ta) (hs:starEach [a,b,c] X.env=(false,eval a X.env)::starEach [b,c] X.env:=by rfl) (hpl:(backTo pos (starEach [b,c] X.env)).any (·.1)=false:=by rfl):
  PI X tg (.Call (.Name "range" p) [a,b,c] [] pos) (iDn ta):=by
 intro pins s σ H R I h
 refine Call_ (jw I hg hm boot_range (PyProof.Rows.callWith_type1 (thn (ha pos pins s σ H _ I h) fun us s1 ⟨vs,H1,I1,r1,q1⟩=>?_) hs hpl))
 obtain ⟨n,rfl,hn,q⟩:=q1
 cases r1 with
 | cons r rr=>
  cases rr with
  | cons r' rr=>
   cases rr with
   | cons r'' rr=>
    cases rr
    obtain ⟨t,rfl⟩:=r
    obtain ⟨t',rfl⟩:=r'
    obtain ⟨t'',rfl⟩:=r''
    refine call_range_3 (by decide) ?_ (.inl (PyProof.noPylong_small (by omega)))
    refine wpAny_pyIter_range (IsRange.new ..) (Jg hn) ?_
    rw [wo]
    have I2:Inv X pins σ H1 { s1 with heap:=s1.heap.push { cls:=.type "range",data:=.fields #[.int ((n:Int) - 1) t,.int (-1) t',.int (-1) t''] },toks:=s1.toks }:=I1.kept fun b o e=>Heap.get?_push_of_some _ e
    refine ⟨(s1.heap.push { cls:=.type "range",data:=.fields #[.int ((n:Int) - 1) t,.int (-1) t',.int (-1) t''] }).objs.size,[(s1.heap.push { cls:=.type "range",data:=.fields #[.int ((n:Int) - 1) t,.int (-1) t',.int (-1) t''] }).objs.size],_,_,H1,rfl,I2.kept (t':=s1.toks) fun b o e=>Heap.get?_push_of_some _ e,Gn _ n,?_,fun b hb=>?_,q⟩
    ·have e1:(n:Int) - 1+((0:Nat):Int)*(-1)=(n:Int) - 1:=by omega
     have e2:(n:Int) - ((0:Nat):Int)=(n:Int):=by omega
     show IsRangeIter _ _ ((n:Int) - 1+((0:Nat):Int)*(-1)) ((n:Int) - ((0:Nat):Int)) (-1)
     rw [e1,e2]
     exact Heap.get?_push_size _ rfl
    ·have e:b=(s1.heap.push { cls:=.type "range",data:=.fields #[.int ((n:Int) - 1) t,.int (-1) t',.int (-1) t''] }).objs.size:=by simpa using hb
     subst e
     exact I2.Bz (Nat.le_refl _) (I2.hok.fresh (Nat.le_refl _))
end
theorem Mu {n:Nat} {g:TG} {tb:TS} {D:Ends} {σ:St} {H:Hp} (Pv:Nat→St→Hp→Prop) (h0:Pv n σ H)
  (hs:∀i σ H,i < n→Pv (i+1) σ H→g (.int (i:Int)) σ H fun σ2 H2=>tb { D with nx:=Pv i,ct:=Pv i,bk:=D.nx } σ2 H2) (hd:∀σ H,Pv 0 σ H→D.nx σ H):ForW g tb D (Itd n) σ H:=by
 refine ⟨fun i m σ H=>m=n - i∧i≤n∧Pv (n - i) σ H,⟨n,by simp,Nat.zero_le _,by simpa using h0⟩,?_⟩
 rintro i m σ H ⟨rfl,hi,p⟩
 by_cases hlt:i < n
 ·refine .inr ⟨hlt,Pv (n - (i+1)),fun σ' H' p'=>⟨n - (i+1),by omega,rfl,hlt,p'⟩,fun x H' y=>?_⟩
  obtain ⟨rfl,rfl⟩:=y
  have e:(n:Int) - 1 - (i:Int)=((n - (i+1):Nat):Int):=by omega
  rw [e]
  exact hs (n - (i+1)) σ _ (by omega) (by rw [show n - (i+1)+1=n - i by omega];exact p)
 ·have e:i=n:=by omega
  subst e
  exact .inl ⟨Nat.le_refl _,hd σ H (by simpa using p)⟩
theorem Ay {K:PySem.W.Frag} {c:Nat} {a:Addr} {as:List Addr} {fr:St} {tc:TT} {te:TE} {D:Addr} {H1:Hp} {Q:Hp→Prop} (P:Nat→List V→Hp→Prop) (mono:∀i ys H H',TK H H'→P i ys H→P i ys H') (hc:c=4) (hS:SqL K H1 a (as.map V.ref)) (hq:∀(i:Nat) (t:Addr),as[i]?=some t→∃x0 x1 x2 x3,H1 t=some (.tup [x0,x1,x2,x3])) (hn:as.length < sizeLine) (hD:H1 D=none) (h0:P 0 [] H1)
  (step:∀i t x0 x1 x2 x3 ys H (G:Hp→Prop) (K':V→Hp→Prop),as[i]?=some t→H1 t=some (.tup [x0,x1,x2,x3])→P i ys H→ys.length≤i→ao H1 H→(∀H3,ao H H3→P (i+1) ys H3→G H3)→(∀y H4,ao H H4→P (i+1) (ys++[y]) H4→K' y H4)→tc ([some x0,some x1,some x2,some x3]++fr) H fun b H3=>if b=true then te ([some x0,some x1,some x2,some x3]++fr) H3 K' else G H3)
  (done:∀ys H,P as.length ys H→ys.length≤as.length→ao H1 H→H D=some (.lst ys)→Q H):LC 4 fr (Cg K c (eg (ck 0) (eg (ck 1) (eg (ck 2) (eg (ck 3) gNil))))) tc te (Itl K a) D H1 Q:=by
 refine ⟨fun i m H=>m=as.length - i∧i≤as.length∧∃ys,H D=some (.lst ys)∧P i ys H∧ys.length≤i∧ao H1 H,⟨as.length,by simp,Nat.zero_le _,[],ae,mono _ _ _ _ (TK.of (aa hD _)) h0,Nat.le_refl _,aa hD _⟩,?_⟩
 rintro i m H ⟨rfl,hi,ys,hys,hP,hl,hS'⟩
 by_cases hlt:i < as.length
 ·have ht:as[i]?=some as[i]:=List.getElem?_eq_getElem hlt
  have hti:(as.map V.ref)[i]?=some (.ref as[i]):=by rw [List.getElem?_map,ht];rfl
  obtain ⟨x0,x1,x2,x3,hx⟩:=hq i _ ht
  refine .inr ⟨⟨_,_,hS'.seq hS,hti⟩,fun τ v H' hτ hy=>?_⟩
  obtain ⟨rfl,hy⟩:=hy
  have hv:v=.ref as[i]:=Option.some.inj ((hy _ (hS'.seq hS)).symm.trans hti)
  subst hv
  obtain ⟨a0,a1,a2,a3,rfl⟩:∃a b c d,τ=[a,b,c,d]:=us4 (P:=fun τ=>∃a b c d,τ=[a,b,c,d]) hτ fun a b c d=>⟨a,b,c,d,rfl⟩
  refine ⟨as[i],_,rfl,SqT.of (hS' _ _ hx),by rw [hc];rfl,_,_,rfl,_,_,rfl,_,_,rfl,_,_,rfl,rfl,⟨[some x0,some x1,some x2,some x3],rfl,rfl⟩,step i as[i] x0 x1 x2 x3 ys _ _ _ ht hx hP hl hS' (fun H3 q1 q2=>?_) (fun y H4 q1 q2=>?_)⟩
  ·exact ⟨as.length - (i+1),by omega,rfl,hlt,ys,q1 _ _ hys,q2,Nat.le_succ_of_le hl,hS'.trans q1⟩
  ·refine ⟨ys,q1 _ _ hys,by omega,as.length - (i+1),by omega,rfl,hlt,ys++[y],ae,mono _ _ _ _ (TK.put (q1 _ _ hys) fun xs e=>by cases e) q2,?_,(hS'.trans q1).upd hD _⟩
   rw [List.length_append,List.length_singleton]
   omega
 ·have e:i=as.length:=by omega
  subst e
  exact .inl ⟨⟨_,hS'.seq hS,by rw [List.length_map];exact Nat.le_refl _⟩,done ys H hP hl hS' hys⟩
namespace Zd
section
variable {prog:Program} {w:World} {A:Around} {E:Value→Shared→Prop} {s:Shared}
def PrT (prog:Program) (w:World) (ps:List (List Key×Addr×Value)) (items:Array Value) (no:List Addr) (h:Heap):Prop:=
 ∀(i:Nat) (k:List Key) (b:Addr) (y:Value),ps[i]?=some (k,b,y)→∃T o n,items[i]?=some (.ref T)∧T∉no∧b∉no∧(tupleKind (bh prog w)).is h k b∧h.get? T=some o∧o.cls=.type "tuple"∧o.data=.seq #[.ref b,y] n
theorem PrT.keep {ps:List (List Key×Addr×Value)} {items:Array Value} {no:List Addr} {h h':Heap} (x:PrT prog w ps items no h) (k:∀b o,b∉no→h.get? b=some o→h'.get? b=some o):PrT prog w ps items no h':=fun i a b y e=>by
 obtain ⟨T,o,n,h1,h2,h3,h4,h5,h6⟩:=x i a b y e
 obtain ⟨ob,its,m,g1,g2⟩:=h4
 exact ⟨T,o,n,h1,h2,h3,⟨ob,its,m,k _ _ h3 g1,g2⟩,k _ _ h2 h5,h6⟩
noncomputable def Cz (ps:List (List Key×Addr×Value)) (acc:List (List Key×Addr×Value)):List (List Key×Addr×Value):=ps.foldl (fun acc p=>storedH acc p.1 p.2.1 p.2.2) acc
theorem loopT {R:Result→Shared→Prop} {I l d:Addr} {items:Array Value} (hI:I≠l) (hu:A.units+1 < cLine) (hh:A.in1.handled=none) (hdI:d≠I) (hdl:d≠l) (ps:List (List Key×Addr×Value)) (hn:ps.length=items.size):
  ∀(m i:Nat) (j:Int) (s:Shared) (kvs:List (List Key×Addr×Value)),ps.length - i=m→i≤ps.length→s.heap.IsListIter I l i→s.heap.IsList l items→PrT prog w ps items [d,I] s.heap→s.heap.DictOfH (tupleKind (bh prog w)) d kvs→kvs.length+m≤sizeLine→
   (∀h' tk,h'.DictOfH (tupleKind (bh prog w)) d (Cz (ps.drop i) kvs)→(∀c o,c≠d→c≠I→s.heap.get? c=some o→h'.get? c=some o)→R (.ok (.ret .none)) { s with heap:=h',toks:=tk })→
   codeAny (model prog w) A (.builtin "dict.update.loop" ⟨[.ref d,.ref I,rawInt j,.none],[]⟩) R s:=by
 intro m
 induction m with
 | zero=>
  intro i j s kvs hm hi h1 hl hp hd hsz hR
  have e:i=items.size:=by omega
  refine codeAny_builtin vd ?_
  rw [Around.under_plainId jg _]
  show wpAny _ A.in1 (pyNext (.ref I) >>=_) _ _ s
  refine wpAny_bind (wpAny_pyNext_list_end hh h1 hl (by rw [e];exact Array.getElem?_eq_none (Nat.le_refl _)) fun h' hk=>?_)
  show wpAny _ A.in1 (Builtin.Dict.addKeywords d [] >>=_) _ _ _
  refine wpAny_bind (wpAny_pure ?_)
  refine wpAny_pure (hR h' s.toks ?_ fun c o c1 c2 x=>hk c o c2 x)
  rw [List.drop_eq_nil_of_le (by omega)]
  obtain ⟨o,es,ep,ho,r1,r2,r3,r4,r5⟩:=hd
  refine ⟨o,es,ep,hk d o hdI ho,r1,r2,r3,fun x hx=>?_,r5⟩
  obtain ⟨ob,its,m,g1,g2⟩:=r4 x hx
  by_cases eb:x.2.1=I
  ·obtain ⟨oi,hoi,ci,_⟩:=h1
   rw [eb,hoi] at g1
   cases g1
   have:=g2.1
   rw [ci] at this
   simp at this
  ·exact ⟨ob,its,m,hk _ _ eb g1,g2⟩
 | succ m ih=>
  intro i j s kvs hm hi h1 hl hp hd hsz hR
  have hlt:i < ps.length:=by omega
  obtain ⟨T,o,n,hx,hT,hb,hk,ho,hc,hdat⟩:=hp i ps[i].1 ps[i].2.1 ps[i].2.2 (List.getElem?_eq_getElem hlt)
  have hTd:T≠d:=fun e=>hT (by rw [e];exact List.mem_cons_self)
  have hTI:T≠I:=fun e=>hT (by rw [e];exact List.mem_cons_of_mem _ List.mem_cons_self)
  have hbI:ps[i].2.1≠I:=fun e=>hb (by rw [e];exact List.mem_cons_of_mem _ List.mem_cons_self)
  refine codeAny_builtin vd ?_
  rw [Around.under_plainId jg _]
  show wpAny _ A.in1 (pyNext (.ref I) >>=_) _ _ s
  have h1':=h1
  refine wpAny_bind (wpAny_pyNext_list_item h1 hl hx fun h₁ h1₁ hs₁=>?_)
  have hs₁:Heap.SameBut I s.heap h₁:=hs₁
  have hP:h₁.get? T=some o:=hs₁.extBut _ _ hTI ho
  refine wpAny_bind (wpAny_holding (wpAny_bind (wpAny_tryCatch ?_)))
  unfold Builtin.Dict.pairItems
  have hTy:Shared.TypeIs { s with heap:=h₁ } (.ref T) "tuple":=⟨_,hP,hc⟩
  refine wpAny_bind (wpAny_typeOf hTy ?_)
  rw [if_pos (by decide)]
  refine wpAny_bind (wpAny_seqItems hP hdat (wpAny_pure ?_))
  show wpAny _ _ (holding [.ref ps[i].2.1,ps[i].2.2] (dictSet d (.ref ps[i].2.1) ps[i].2.2)) _ _ _
  refine wpAny_holding ?_
  have hk₁:(tupleKind (bh prog w)).is h₁ ps[i].1 ps[i].2.1:=by
   obtain ⟨ob,its,m,g1,g2⟩:=hk
   exact ⟨ob,its,m,hs₁.extBut _ _ hbI g1,g2⟩
  have hd₁:h₁.DictOfH (tupleKind (bh prog w)) d kvs:=by
   obtain ⟨o,es,ep,ho,r1,r2,r3,r4,r5⟩:=hd
   refine ⟨o,es,ep,hs₁.extBut _ _ hdI ho,r1,r2,r3,fun x hx=>?_,r5⟩
   obtain ⟨ob,its,m,g1,g2⟩:=r4 x hx
   by_cases eb:x.2.1=I
   ·obtain ⟨oi,hoi,ci,_⟩:=h1'
    rw [eb,hoi] at g1
    cases g1
    have:=g2.1
    rw [ci] at this
    simp at this
   ·exact ⟨ob,its,m,hs₁.extBut _ _ eb g1,g2⟩
  refine wpAny_dictSet_heap (s:={ s with heap:=h₁ }) (knd:=tupleKind (bh prog w)) (tupleKind_room_in1 hu) hk₁ hd₁ (fun h₂ hd₂ hs₂=>?_) (by omega)
  have hs₂:Heap.SameBut d h₁ h₂:=hs₂
  have kp:∀c o,c≠d→c≠I→s.heap.get? c=some o→h₂.get? c=some o:=fun c o c1 c2 e=>hs₂.extBut _ _ c1 (hs₁.extBut _ _ c2 e)
  refine wpAny_pure ⟨plainId_quiet jg _,ih (i+1) (j+1) _ _ (by omega) hlt (h1₁.extBut hs₂.extBut hdI.symm) ((hl.extBut hs₁.extBut hI.symm).extBut hs₂.extBut hdl.symm) (hp.keep fun b o hb e=>kp b o (fun z=>hb (by rw [z];exact List.mem_cons_self)) (fun z=>hb (by rw [z];exact List.mem_cons_of_mem _ List.mem_cons_self)) e) hd₂ ?_ fun h' tk hd' k'=>?_⟩
  ·have:(storedH kvs ps[i].1 ps[i].2.1 ps[i].2.2).length≤kvs.length+1:=by
    unfold storedH
    split
    ·rw [List.length_map];omega
    ·rw [List.length_append];exact Nat.le_refl _
   omega
  ·refine hR h' tk ?_ fun c o c1 c2 x=>k' c o c1 c2 (kp c o c1 c2 x)
   rw [List.drop_eq_getElem_cons hlt]
   exact hd'
theorem lh {l:Addr} {items:Array Value} {n:Nat} {Q:Value→Shared→Prop} (hu:A.units+4 < cLine) (hh:A.handled=none) (ho:s.heap.get? l=some { cls:=.type "list",dict:=none,data:=.seq items n,slots:=#[] })
  (ps:List (List Key×Addr×Value)) (hn:ps.length=items.size) (hps:PrT prog w ps items [] s.heap) (hsz:ps.length≤sizeLine)
  (h:∀h' tk,h'.DictOfH (tupleKind (bh prog w)) s.heap.objs.size (Cz ps [])→(∀c o,s.heap.get? c=some o→h'.get? c=some o)→Q (.ref s.heap.objs.size) { s with heap:=h',toks:=tk }):
  wpAny (model prog w) A (call (.type "dict") [.ref l]) Q E s:=by
 refine callType_codes (Q₁:=fun obj s₁=>obj=.ref s.heap.objs.size∧s₁={ s with heap:=s.heap.push { cls:=.type "dict",data:=.dict #[] } }) F.kt_called_dict (F.kt_typeCall_dict_1 _) F.entry_dict_init (kt_code_dict_new _ ⟨rfl,rfl⟩) ?_
 rintro obj s₁ ⟨rfl,rfl⟩
 have hnew:(s.heap.push { cls:=.type "dict",data:=.dict #[] }).DictOfH (tupleKind (bh prog w)) s.heap.objs.size []:=Heap.DictOfH.new s.heap
 have gt:∀{c o},s.heap.get? c=some o→s.heap.objs.size≠c:=fun e=>Nat.ne_of_gt (Heap.lt_size e)
 have up:∀{c o},s.heap.get? c=some o→(s.heap.push { cls:=.type "dict",data:=.dict #[] }).get? c=some o:=fun e=>Heap.get?_push_of_some _ e
 have hty:Shared.TypeIs { s with heap:=s.heap.push { cls:=.type "dict",data:=.dict #[] } } (.ref s.heap.objs.size) "dict":=⟨_,Heap.get?_push_size _ rfl,rfl⟩
 refine ⟨hty,F.args_dict_init_2 _ _,?_⟩
 unfold Builtin.«dict.__init__»
 refine wpAny_bind ?_
 unfold Builtin.Dict.selfAndRest
 refine wpAny_bind (wpAny_notOrdered_dict hty ?_)
 show wpAny _ _ (pure (s.heap.objs.size,[Value.ref l])) _ _ _
 refine wpAny_pure ?_
 show wpAny _ _ (Builtin.Dict.updateFrom "dict.__init__" s.heap.objs.size (.ref l) [] .none) _ _ _
 unfold Builtin.Dict.updateFrom
 have hT:Shared.TypeIs { s with heap:=s.heap.push { cls:=.type "dict",data:=.dict #[] } } (.ref l) "list":=⟨_,up ho,rfl⟩
 refine wpAny_bind (wpAny_typeOf hT ?_)
 rw [if_pos (by decide)]
 refine wpAny_bind (Lv (up ho) (by simp [hh]) fun h₁ tk₁ kp₁=>?_)
 rw [if_pos (show (none:Option Value).isNone=true from rfl)]
 have kp:∀{c o},s.heap.get? c=some o→h₁.get? c=some o:=fun e=>kp₁ _ _ (up e)
 have hl₁:h₁.IsList l items:=⟨_,kp ho,rfl,n,rfl⟩
 refine wpAny_bind (wpAny_rule (wpAny_bind (wpAny_pyIter_list hl₁ ?_)))
 have dl:s.heap.objs.size < h₁.objs.size:=Heap.lt_size (kp₁ _ _ (Heap.get?_push_size _ rfl))
 have hd₁:(h₁.push { cls:=.type "list_iterator",data:=.fields #[.ref l,.int 0 0] }).DictOfH (tupleKind (bh prog w)) s.heap.objs.size []:=by
  obtain ⟨o,es,ep,ho,r1,r2,r3,r4,r5⟩:=hnew
  exact ⟨o,es,ep,Heap.get?_push_of_some _ (kp₁ _ _ ho),r1,r2,r3,(fun x hx=>nomatch hx),r5⟩
 refine wpAny_pure ⟨plainId_quiet jg _,loopT (items:=items) (Nat.ne_of_gt (Heap.lt_size (kp ho))) (by simp only [units_in1];omega) (by simp [hh]) (Nat.ne_of_lt dl) (gt ho) ps hn ps.length 0 0 _ [] rfl (Nat.zero_le _) ⟨_,Heap.get?_push_size _ rfl,rfl,rfl⟩ (hl₁.push _) (fun i k b y e=>?_) hd₁ (by show 0+_≤_;omega) fun h' tk hd' k'=>⟨rfl,?_⟩⟩
 ·obtain ⟨T,o,n,a1,a2,a3,a4,a5,a6⟩:=hps i k b y e
  have nt:∀{c o},s.heap.get? c=some o→c∉[s.heap.objs.size,h₁.objs.size]:=fun {c o} q z=>by
   rcases List.mem_cons.mp z with z | z
   ·exact gt q z.symm
   ·rw [List.mem_singleton.mp z] at q
    exact absurd (Heap.lt_size (kp q)) (Nat.lt_irrefl _)
  obtain ⟨ob,its,m,g1,g2⟩:=a4
  exact ⟨T,o,n,a1,nt a5,nt g1,⟨ob,its,m,Heap.get?_push_of_some _ (kp g1),g2⟩,Heap.get?_push_of_some _ (kp a5),a6⟩
 ·exact h h' tk hd' fun c o e=>k' c o (gt e).symm (Nat.ne_of_lt (Heap.lt_size (kp e))) (Heap.get?_push_of_some _ (kp e))
end
end Zd
noncomputable def jx (ps acc:List (List Key×V)):List (List Key×V):=ps.foldl (fun acc p=>putK acc p.1 p.2) acc
theorem tf:∀(ps acc:List (List Key×V)),(jx ps acc).length≤acc.length+ps.length
 | [],acc=>Nat.le_refl _
 | p::ps,acc=>by
  have h1:=tf ps (putK acc p.1 p.2)
  have h2:=fo acc p.1 p.2
  show (jx ps (putK acc p.1 p.2)).length≤_
  rw [List.length_cons]
  omega
theorem KT.merge {H:Hp}:∀{ps:List (List Key×V)} {qs:List (List Key×Addr×Value)},KT H ps qs→∀{acc:List (List Key×V)} {acc':List (List Key×Addr×Value)},KT H acc acc'→KT H (jx ps acc) (Zd.Cz qs acc')
 | _,_,.nil,_,_,r=>r
 | (k,v)::ps,(k',b,u)::qs,.cons h t,acc,acc',r=>by
  obtain ⟨h1,h2,h3⟩:=h
  have h1:k=k':=h1
  subst h1
  exact KT.merge t (r.put k h2 h3)
section
variable {X:Cx}
theorem lh (hu:X.A.units+8 < cLine):gj X (.type "dict") (fun xs H Q=>X.calm=true∧∃(a:Addr) (rs:List V) (ps:List (List Key×V)),xs=[.ref a]∧H a=some (.lst rs)∧rs.length=ps.length∧(∀(i:Nat) (p:List Key×V),ps[i]?=some p→∃t b,rs[i]?=some (.ref t)∧H t=some (.tup [.ref b,p.2])∧H b=some (.tup (p.1.map kV)))∧∀d,H d=none→Q (.ref d) (upd H d (.dT (jx ps [])))):=by
 intro pins s σ H xs us Q I r h
 obtain ⟨hc,a,rs,ps,rfl,ha,hl,hp,q⟩:=h
 obtain ⟨u,rfl,rx⟩:=vals1 r
 cases rx
 obtain ⟨z,its,n,rv,e⟩:=I.hok a _ ha
 have hl2:=rv.length
 obtain ⟨qs,kt,hq⟩:∃qs:List (List Key×Addr×Value),KT H ps qs∧∀(i:Nat) (k:List Key) (b:Addr) (y:Value),qs[i]?=some (k,b,y)→∃(T:Addr) (o:Obj) (m:Nat),its[i]?=some (.ref T)∧H b=some (.tup (k.map kV))∧s.heap.get? T=some o∧o.cls=.type "tuple"∧o.data=.seq #[.ref b,y] m:=by
  have one:∀(i:Nat) (p:List Key×V),ps[i]?=some p→∃(b:Addr) (y:Value) (T:Addr) (o:Obj) (m:Nat),RelV p.2 y∧its[i]?=some (.ref T)∧H b=some (.tup (p.1.map kV))∧s.heap.get? T=some o∧o.cls=.type "tuple"∧o.data=.seq #[.ref b,y] m:=fun i p hi=>by
   obtain ⟨t,b,h1,h2,h3⟩:=hp i p hi
   obtain ⟨u,hu,ru⟩:=rv.get h1
   cases (show u=Value.ref t from ru)
   obtain ⟨_,js,rj,o,g1,g2,m,g3⟩:=Kr I.hok h2
   obtain ⟨x,y,rfl,rx,ry⟩:=vals2 rj
   cases (show x=Value.ref b from rx)
   exact ⟨b,y,t,o,m,ry,hu,h3,g1,g2,g3⟩
  clear hp q hl ha rv hl2 e z
  clear hc
  suffices go:∀(ps:List (List Key×V)) (its:List Value),(∀(i:Nat) (p:List Key×V),ps[i]?=some p→∃(b:Addr) (y:Value) (T:Addr) (o:Obj) (m:Nat),RelV p.2 y∧its[i]?=some (.ref T)∧H b=some (.tup (p.1.map kV))∧s.heap.get? T=some o∧o.cls=.type "tuple"∧o.data=.seq #[.ref b,y] m)→∃qs:List (List Key×Addr×Value),KT H ps qs∧∀(i:Nat) (k:List Key) (b:Addr) (y:Value),qs[i]?=some (k,b,y)→∃(T:Addr) (o:Obj) (m:Nat),its[i]?=some (.ref T)∧H b=some (.tup (k.map kV))∧s.heap.get? T=some o∧o.cls=.type "tuple"∧o.data=.seq #[.ref b,y] m from go ps its one
  intro ps
  induction ps with
  | nil=>exact fun its _=>⟨[],.nil,fun i k b y h=>by simp at h⟩
  | cons p ps ih=>
   intro its one
   obtain ⟨qs,k1,k2⟩:=ih its.tail fun i p' hi=>by
    obtain ⟨b,y,T,o,m,h1,h2,h3⟩:=one (i+1) p' hi
    exact ⟨b,y,T,o,m,h1,by rw [List.getElem?_tail];exact h2,h3⟩
   obtain ⟨b,y,T,o,m,h1,h2,h3,h4⟩:=one 0 p rfl
   refine ⟨(p.1,b,y)::qs,.cons ⟨rfl,h3,h1⟩ k1,fun i k b' y' hi=>?_⟩
   cases i with
   | zero=>
    cases hi
    exact ⟨T,o,m,h2,h3,h4⟩
   | succ i=>
    obtain ⟨T,o,m,g1,g2⟩:=k2 i k b' y' hi
    exact ⟨T,o,m,by rw [List.getElem?_tail] at g1;exact g1,g2⟩
 have lq:=Paired.length kt
 refine Zd.lh (by omega) (I.ok.hd hc) e qs (by rw [List.size_toArray];omega) (fun i k b y hi=>?_) (by omega) fun h' tk hd keep=>?_
 ·obtain ⟨T,o,m,g1,g2,g3,g4,g5⟩:=hq i k b y hi
  exact ⟨T,o,m,by rw [List.getElem?_toArray];exact g1,(fun z=>nomatch z),(fun z=>nomatch z),kz I.hok g2,g3,g4,g5⟩
 ·have zl:(jx ps []).length≤sizeLine:=by
   have:=tf ps []
   rw [List.length_nil] at this
   omega
  have fr:=I.hok.fresh (Nat.le_refl s.heap.objs.size)
  obtain ⟨o,es,ep,r1,r2,r3,r4,_,r6⟩:=hd
  refine ⟨.ref s.heap.objs.size,_,I.laid (t':=tk) (fun b u e=>keep b u e) (Nat.le_refl _) (show bp X.prog X.w _ _ _ (.dT (jx ps [])) from ⟨zl,?_,_,(KT.merge kt .nil).keeps fun c ys ec=>?_,o,es,ep,r1,r2,r3,r4,r6⟩),rfl,q _ fr⟩
  ·exact beq_eq_false_iff_ne.mpr (Ne.symm (Nat.ne_of_lt I.big))
  ·rw [af (ag ec fr)]
   exact ec
end
namespace Zd
section
variable {prog:Program} {w:World} {A:Around} {E:Value→Shared→Prop} {s:Shared}
end
end Zd
section
variable {X:Cx}
end
end L2
namespace Pc
open PySem PySem.Spec L2 PyProof.Rows Fm
abbrev Ky:=Nat×Str
noncomputable def kyK (k:Ky):List Key:=[Sum.inl (k.1:Int),Sum.inr k.2]
theorem n6 {a b:Ky} (h:kyK a=kyK b):a=b:=by
 obtain ⟨a1,a2⟩:=a
 obtain ⟨b1,b2⟩:=b
 unfold kyK at h
 simp only [List.cons.injEq,Sum.inl.injEq,Sum.inr.injEq,and_true] at h
 rw [h.2,show a1=b1 by omega]
noncomputable def kyT (k:Ky):HO:=.tup [.int (k.1:Int),.str k.2]
def cv (H:Hp) (d:Addr) (g:Ky→Option Int) (n:Nat):Prop:=∃kvs:List (List Key×V),H d=some (.dT kvs)∧kvs.length≤n∧∀k,cz kvs (kyK k)=(g k).map V.int
theorem cv.get {H:Hp} {d b:Addr} {g:Ky→Option Int} {n:Nat} {k:Ky} (h:cv H d g n) (hb:H b=some (kyT k)):jm H d (.ref b) ((g k).map V.int):=by
 obtain ⟨kvs,h1,_,h3⟩:=h
 rw [←h3 k]
 exact jm.t h1 hb
theorem cv.val {H:Hp} {d b:Addr} {g:Ky→Option Int} {n:Nat} {k:Ky} {v:Int} (h:cv H d g n) (hb:H b=some (kyT k)) (e:g k=some v):jm H d (.ref b) (some (.int v)):=by
 have:=h.get hb
 rw [e] at this
 exact this
theorem cv.mono {H:Hp} {d:Addr} {g:Ky→Option Int} {n m:Nat} (h:cv H d g n) (e:n≤m):cv H d g m:=by
 obtain ⟨kvs,h1,h2,h3⟩:=h
 exact ⟨kvs,h1,by omega,h3⟩
theorem cv.at {H H':Hp} {d:Addr} {g:Ky→Option Int} {n:Nat} (h:cv H d g n) (e:∀o,H d=some o→H' d=some o):cv H' d g n:=by
 obtain ⟨kvs,h1,h2⟩:=h
 exact ⟨kvs,e _ h1,h2⟩
theorem cv.same {H H':Hp} {d:Addr} {g:Ky→Option Int} {n:Nat} (h:cv H d g n) (s:ao H H'):cv H' d g n:=h.at fun o e=>s _ _ e
theorem cv.nil {H:Hp} {d:Addr}:cv (upd H d (.dT [])) d (fun _=>none) 0:=⟨[],ae,Nat.le_refl _,fun _=>rfl⟩
theorem cv.put {H:Hp} {d b:Addr} {g:Ky→Option Int} {n:Nat} {k:Ky} {v:Int} (h:cv H d g n) (hb:H b=some (kyT k)) (hn:n≤1000000):
  ∃o,vc H d (.ref b) (.int v) (upd H d o)∧cv (upd H d o) d (eh g k v) (if (g k).isSome then n else n+1):=by
 obtain ⟨kvs,h1,h2,h3⟩:=h
 have sz:=sizeLine_eq
 refine ⟨.dT (putK kvs (kyK k) (.int v)),vc.t h1 hb (by omega),_,ae,?_,fun j=>?_⟩
 ·have hk:=h3 k
  cases e:g k with
  | none=>
   have:=fo kvs (kyK k) (.int v)
   simp only [Option.isSome_none,Bool.false_eq_true,if_false]
   omega
  | some w=>
   rw [e] at hk
   have ha:(kvs.any fun kv=>decide (kv.1=kyK k))=true:=by rw [dy,hk];rfl
   simp only [Option.isSome_some,if_true]
   unfold putK
   rw [if_pos ha,List.length_map]
   exact h2
 ·rw [Aq]
  by_cases e:j=k
  ·subst e
   rw [if_pos rfl,cb]
   rfl
  ·rw [if_neg (fun z=>e (n6 z)),dh e]
   exact h3 j
theorem cv.bound {H:Hp} {d:Addr} {g:Ky→Option Int} {n:Nat} (h:cv H d g n):∃D:Nat,∀k v,g k=some v→v≤(D:Int):=by
 obtain ⟨kvs,h1,_,h3⟩:=h
 obtain ⟨B,hB⟩:=my (fun p:List Key×V=>match p.2 with | .int i=>i.toNat | _=>0) kvs
 refine ⟨B,fun k v e=>?_⟩
 have hk:=h3 k
 rw [e] at hk
 unfold cz at hk
 obtain ⟨p,hp,e2⟩:=Option.map_eq_some_iff.mp hk
 have:=hB p (List.mem_of_find?_eq_some hp)
 rw [show p.2=V.int v from e2] at this
 have:v.toNat≤B:=this
 omega
structure Kx (no:Addr→Prop) (H H':Hp):Prop where
 t:∀{a:Addr} {xs:List V},H a=some (.tup xs)→H' a=some (.tup xs)
 l:∀{a:Addr} {xs:List V},¬no a→H a=some (.lst xs)→H' a=some (.lst xs)
theorem Kx.same {no:Addr→Prop} {H H':Hp} (s:ao H H'):Kx no H H':=⟨fun h=>s _ _ h,fun _ h=>s _ _ h⟩
theorem Kx.trans {no:Addr→Prop} {H H1 H2:Hp} (a:Kx no H H1) (b:Kx no H1 H2):Kx no H H2:=⟨fun h=>b.t (a.t h),fun n h=>b.l n (a.l n h)⟩
theorem Kx.weak {no no':Addr→Prop} {H H':Hp} (a:Kx no H H') (h:∀x,no x→no' x):Kx no' H H':=⟨a.t,fun n e=>a.l (fun z=>n (h _ z)) e⟩
theorem Kx.upd {x:Addr} {H:Hp} {ys:List V} {o:HO} (h:H x=some (.lst ys)):Kx (·=x) H (L2.upd H x o):=⟨fun e=>by rw [af (ee e h (by intro z;cases z))];exact e,fun n e=>by rw [af n];exact e⟩
theorem Kx.dict {no:Addr→Prop} {d:Addr} {H H':Hp} {kvs:List (List Key×V)} (h:H d=some (.dT kvs)) (s:au d H H'):Kx no H H':=⟨fun e=>s _ _ (ee e h (by intro z;cases z)) e,fun _ e=>s _ _ (ee e h (by intro z;cases z)) e⟩
theorem Kx.tb {no:Addr→Prop} {d:Addr} {H H':Hp} {g:Ky→Option Int} {n:Nat} (h:cv H d g n) (s:au d H H'):Kx no H H':=by
 obtain ⟨kvs,h1,_⟩:=h
 exact Kx.dict h1 s
def mn (H:Hp) (l:Addr) (hs:List Ky):Prop:=∃as:List Addr,H l=some (.lst (as.map V.ref))∧as.length=hs.length∧∀(j:Nat) (k:Ky),hs[j]?=some k→∃a,as[j]?=some a∧H a=some (kyT k)
theorem mn.kx {no:Addr→Prop} {H H':Hp} {l:Addr} {hs:List Ky} (h:mn H l hs) (x:Kx no H H') (n:¬no l):mn H' l hs:=by
 obtain ⟨as,h1,h2,h3⟩:=h
 exact ⟨as,x.l n h1,h2,fun j k e=>by
  obtain ⟨a,g1,g2⟩:=h3 j k e
  exact ⟨a,g1,x.t g2⟩⟩
theorem mn.same {H H':Hp} {l:Addr} {hs:List Ky} (h:mn H l hs) (s:ao H H'):mn H' l hs:=h.kx (no:=fun _=>False) (Kx.same s) id
structure Fr where
 name:Str
 kind:Str
 own:Int
 hs:List Ky
def FrAt (H:Hp) (no:Addr→Prop) (a:Addr) (f:Fr):Prop:=∃hl,¬no hl∧H a=some (.tup [.str f.name,.str f.kind,.int f.own,.ref hl])∧mn H hl f.hs
def de (H:Hp) (no:Addr→Prop) (as:List Addr) (fs:List Fr):Prop:=as.length=fs.length∧∀(j:Nat) (f:Fr),fs[j]?=some f→∃a,as[j]?=some a∧FrAt H no a f
theorem de.kx {no:Addr→Prop} {H H':Hp} {as:List Addr} {fs:List Fr} (h:de H no as fs) (x:Kx no H H'):de H' no as fs:=⟨h.1,fun j f e=>by
 obtain ⟨a,g1,hl,g2,g3,g4⟩:=h.2 j f e
 exact ⟨a,g1,hl,g2,x.t g3,g4.kx x g2⟩⟩
theorem de.weak {no no':Addr→Prop} {H:Hp} {as:List Addr} {fs:List Fr} (h:de H no as fs) (w:∀x,no' x→no x):de H no' as fs:=⟨h.1,fun j f e=>by
 obtain ⟨a,g1,hl,g2,g3⟩:=h.2 j f e
 exact ⟨a,g1,hl,fun z=>g2 (w _ z),g3⟩⟩
theorem de.snoc {no:Addr→Prop} {H:Hp} {as:List Addr} {fs:List Fr} {a:Addr} {f:Fr} (h:de H no as fs) (hf:FrAt H no a f):de H no (as++[a]) (fs++[f]):=by
 refine ⟨by rw [List.length_append,List.length_append,h.1];rfl,fun i f' hi=>?_⟩
 by_cases c:i < fs.length
 ·rw [List.getElem?_append_left c] at hi
  obtain ⟨a',g1,g2⟩:=h.2 i f' hi
  exact ⟨a',by rw [List.getElem?_append_left (by rw [h.1];exact c)];exact g1,g2⟩
 ·rw [List.getElem?_append_right (by omega)] at hi
  have hz:i - fs.length=0:=by
   rcases Nat.eq_zero_or_pos (i - fs.length) with g | g
   ·exact g
   ·rw [List.getElem?_eq_none (by rw [List.length_singleton];omega)] at hi;cases hi
  rw [hz] at hi
  cases hi
  exact ⟨a,by rw [List.getElem?_append_right (by rw [h.1];omega),h.1,hz];rfl,hf⟩
theorem de.nil (H:Hp) (no:Addr→Prop):de H no [] []:=⟨rfl,fun j f h=>by simp at h⟩
noncomputable def ba (kinds:List Str) (sh:List V):List Str:=sh.filterMap fun v=>match v with
 | .str z=>if z∈kinds then some z else none
 | _=>none
noncomputable def dv (p:Nat) (f:Fr):Ft Ky:=⟨(p,f.kind),f.own,f.hs⟩
noncomputable def jr (kinds:List Str) (ws:List V) (p:Nat) (r:Rl):Option Fr:=(dk kinds ws r.shape p ⟨[],[],[]⟩).map fun u=>⟨r.name,r.kind,r.price,u.hs.zip (ba kinds r.shape)⟩
noncomputable def bo (kinds:List Str) (rs:List Rl) (ws:List V) (p:Nat):List Fr:=rs.filterMap (jr kinds ws p)
structure Rw where
 place:Nat
 kind:Str
 price:Int
 names:List Str
def RwAt (H:Hp) (no:Addr→Prop) (a:Addr) (r:Rw):Prop:=∃nl,¬no nl∧H a=some (.tup [.int (r.place:Int),.str r.kind,.int r.price,.ref nl])∧H nl=some (.lst (r.names.map V.str))
def cg (H:Hp) (no:Addr→Prop) (as:List Addr) (rs:List Rw):Prop:=as.length=rs.length∧∀(j:Nat) (r:Rw),rs[j]?=some r→∃a,as[j]?=some a∧RwAt H no a r
theorem cg.kx {no:Addr→Prop} {H H':Hp} {as:List Addr} {rs:List Rw} (h:cg H no as rs) (x:Kx no H H'):cg H' no as rs:=⟨h.1,fun j f e=>by
 obtain ⟨a,g1,hl,g2,g3,g4⟩:=h.2 j f e
 exact ⟨a,g1,hl,g2,x.t g3,x.l g2 g4⟩⟩
theorem cg.weak {no no':Addr→Prop} {H:Hp} {as:List Addr} {rs:List Rw} (h:cg H no as rs) (w:∀x,no' x→no x):cg H no' as rs:=⟨h.1,fun j f e=>by
 obtain ⟨a,g1,hl,g2,g3⟩:=h.2 j f e
 exact ⟨a,g1,hl,fun z=>g2 (w _ z),g3⟩⟩
theorem cg.nil (H:Hp) (no:Addr→Prop):cg H no [] []:=⟨rfl,fun j f h=>by simp at h⟩
theorem cg.append {no:Addr→Prop} {H:Hp} {as bs:List Addr} {rs qs:List Rw} (h:cg H no as rs) (h':cg H no bs qs):cg H no (as++bs) (rs++qs):=by
 refine ⟨by rw [List.length_append,List.length_append,h.1,h'.1],fun i r hi=>?_⟩
 by_cases c:i < rs.length
 ·rw [List.getElem?_append_left c] at hi
  obtain ⟨a',g1,g2⟩:=h.2 i r hi
  exact ⟨a',by rw [List.getElem?_append_left (by rw [h.1];exact c)];exact g1,g2⟩
 ·rw [List.getElem?_append_right (by omega)] at hi
  obtain ⟨a',g1,g2⟩:=h'.2 _ r hi
  exact ⟨a',by rw [List.getElem?_append_right (by rw [h.1];omega),h.1];exact g1,g2⟩
theorem cg.one {no:Addr→Prop} {H:Hp} {a:Addr} {r:Rw} (h:RwAt H no a r):cg H no [a] [r]:=⟨rfl,fun j r' e=>by
 cases j with
 | zero=>cases e;exact ⟨a,rfl,h⟩
 | succ j=>simp at e⟩
noncomputable def namesW (fs:List Fr) (g:Ky→Option Int) (k:Str) (v:Int):List Str:=(fs.filter fun f=>decide (f.kind=k∧cost g f.own f.hs=some v)).map (·.name)
noncomputable def df (ks:List Str) (fs:List Fr) (p:Nat) (g:Ky→Option Int):List Rw:=ks.filterMap fun k=>(g (p,k)).map fun v=>⟨p,k,v,namesW fs g k v⟩
noncomputable def rowsOf (kinds:List Str) (rs:List Rl) (ws:List V) (g:Ky→Option Int):List Rw:=(List.range ws.length).flatMap fun p=>df (cq kinds) (bo kinds rs ws p) p g
noncomputable def qm (kinds:List Str) (rs:List Rl) (ws:List V):List (Ft Ky):=(List.range ws.length).flatMap fun p=>(bo kinds rs ws p).map (dv p)
def n0 (K:PySem.W.Frag):Sp:=fun vs H Q _=>∃(st kt ut:Addr) (sh:List V) (kinds:List Str) (u:Und),vs=[.ref st,.ref kt,.ref ut]∧SqT K H st sh∧SqT K H kt (kinds.map V.str)∧Jf H ut u∧Kinds kinds∧(∀v∈sh,isW v)∧sh.length≤1000∧u.hs.length=(ba kinds sh).length∧∀(l:Addr) (H':Hp),ao H H'→H l=none→mn H' l (u.hs.zip (ba kinds sh))→Q (.ref l) H'
def j7:Sp:=fun vs H Q _=>∃(b wt:Addr) (kinds:List Str) (rs:List Rl) (ws:List V) (p:Nat),vs=[.ref b,.ref wt,.int (p:Int)]∧dg H b kinds rs∧H wt=some (.tup ws)∧Bk kinds rs∧Tw ws∧p < ws.length∧∀(l:Addr) (as:List Addr) (H':Hp),ao H H'→H l=none→H' l=some (.lst (as.map V.ref))→de H' (fun x=>H x≠none) as (bo kinds rs ws p)→Q (.ref l) H'
def jb:Sp:=fun vs H Q _=>∃(own:Int) (hl d:Addr) (hs:List Ky) (g:Ky→Option Int) (n:Nat),vs=[.int own,.ref hl,.ref d]∧mn H hl hs∧cv H d g n∧Q (match cost g own hs with | none=>.non | some c=>.int c) H
def nj:Sp:=fun vs H Q _=>∃(p:Nat) (fl d:Addr) (as:List Addr) (fs:List Fr) (g:Ky→Option Int) (n:Nat),vs=[.int (p:Int),.ref fl,.ref d]∧H fl=some (.lst (as.map V.ref))∧de H (fun _=>False) as fs∧cv H d g n∧n+fs.length≤1000000∧(∀f∈fs,1≤f.own)∧(∀k v,g k=some v→1≤v)∧(∀k,k.1=p→g k=none)∧
 ∀(H':Hp) (g':Ky→Option Int),au d H H'→cv H' d g' (n+fs.length)→iu (fs.map (dv p)) g'→(∀k,k.1≠p→g' k=g k)→(∀k v,k.1=p→g' k=some v→∃f∈fs.map (dv p),f.key=k∧∃c,cost g' f.own f.hs=some c∧c≤v)→(∀k v,g' k=some v→1≤v)→Q .non H'
def ya:Sp:=fun vs H Q _=>∃(k:Str) (v:Int) (fl d:Addr) (as:List Addr) (fs:List Fr) (g:Ky→Option Int) (n:Nat),vs=[.str k,.int v,.ref fl,.ref d]∧H fl=some (.lst (as.map V.ref))∧de H (fun _=>False) as fs∧fs.length≤1000∧cv H d g n∧∀(l:Addr) (H':Hp),ao H H'→H l=none→H' l=some (.lst ((namesW fs g k v).map V.str))→Q (.ref l) H'
def rn:Sp:=fun vs H Q _=>∃(b fl d:Addr) (p:Nat) (kinds:List Str) (rs:List Rl) (as:List Addr) (fs:List Fr) (g:Ky→Option Int) (n:Nat),vs=[.ref b,.int (p:Int),.ref fl,.ref d]∧dg H b kinds rs∧kinds.length≤60∧H fl=some (.lst (as.map V.ref))∧de H (fun _=>False) as fs∧fs.length≤1000∧cv H d g n∧∀(l:Addr) (bs:List Addr) (H':Hp),ao H H'→H l=none→H' l=some (.lst (bs.map V.ref))→cg H' (fun x=>H x≠none) bs (df (cq kinds) fs p g)→Q (.ref l) H'
def yj:Sp:=fun vs H Q _=>∃(b wt:Addr) (kinds:List Str) (rs:List Rl) (ws:List V),vs=[.ref b,.ref wt]∧dg H b kinds rs∧H wt=some (.tup ws)∧Bk kinds rs∧Tw ws∧∀(l:Addr) (bs:List Addr) (H':Hp) (g:Ky→Option Int),ao H H'→H l=none→H' l=some (.lst (bs.map V.ref))→Tbl (qm kinds rs ws) g→cg H' (fun x=>H x≠none) bs (rowsOf kinds rs ws g)→Q (.ref l) H'
end Pc
namespace Pc
open PySem PySem.Spec L2 PyProof.Rows Fm
noncomputable def isH (kinds:List Str):V→Bool
 | .str z=>decide (z∈kinds)
 | _=>false
theorem x8 {kinds:List Str} {v:V} (hv:isW v):inV v (kinds.map V.str)=isH kinds v:=by
 obtain ⟨k,rfl⟩:=hv
 cases k with
 | inl i=>
  show inV (.int i) (kinds.map V.str)=false
  induction kinds with
  | nil=>rfl
  | cons z r ih=>exact ih
 | inr z=>
  show inV (.str z) (kinds.map V.str)=decide (z∈kinds)
  by_cases h:z∈kinds
  ·rw [decide_eq_true h]
   exact rh (List.mem_map.mpr ⟨z,h,rfl⟩)
  ·rw [decide_eq_false h]
   cases e:inV (.str z) (kinds.map V.str) with
   | false=>rfl
   | true=>
    obtain ⟨y,hy,e'⟩:=List.mem_map.mp (kg e)
    cases e'
    exact absurd hy h
theorem nr {kinds:List Str} (hk:Kinds kinds) {v:V} (hv:isW v):cf kinds v=lH↔isH kinds v=true:=by
 obtain ⟨b1,b2,b3,_,_,_⟩:=lets
 rcases fm (kinds:=kinds) hv with ⟨rfl,h⟩ | ⟨rfl,h⟩ | ⟨⟨z,hz,rfl⟩,h⟩ | ⟨h,hno⟩
 ·rw [h]
  refine ⟨fun e=>absurd e b1,fun e=>?_⟩
  exact absurd rfl (hk _ (of_decide_eq_true (show decide (Str.ofString "any"∈kinds)=true from e))).2.1
 ·rw [h]
  refine ⟨fun e=>absurd e b2,fun e=>?_⟩
  exact absurd rfl (hk _ (of_decide_eq_true (show decide (Str.ofString "var"∈kinds)=true from e))).2.2
 ·exact ⟨fun _=>decide_eq_true hz,fun _=>h⟩
 ·rw [h]
  refine ⟨fun e=>absurd e b3,fun e=>?_⟩
  rw [x8 hv,e] at hno
  cases hno
theorem Ct (kinds:List Str) (v:V) (r:List V):ba kinds (v::r)=(match v with | .str z=>if z∈kinds then [z] else [] | _=>[])++ba kinds r:=by
 unfold ba
 rw [List.filterMap_cons]
 cases v with
 | str z=>
  by_cases h:z∈kinds
  ·simp [h]
  ·simp [h]
 | _=>rfl
theorem ic (kinds:List Str):∀(sh:List V),(ba kinds sh).map V.str=sh.filter (isH kinds)
 | []=>rfl
 | v::r=>by
  rw [Ct,List.map_append,ic kinds r,List.filter_cons]
  cases v with
  | str z=>
   by_cases h:z∈kinds
   ·simp [h,isH]
   ·simp [h,isH]
  | _=>simp [isH]
theorem Gj (kinds:List Str) (v:V) (r:List V):(ba kinds (v::r)).length=(if isH kinds v=true then 1 else 0)+(ba kinds r).length:=by
 have e:=congrArg List.length (ic kinds (v::r))
 have e':=congrArg List.length (ic kinds r)
 rw [List.length_map] at e e'
 rw [e,e',List.filter_cons]
 by_cases h:isH kinds v=true
 ·rw [if_pos h,if_pos h,List.length_cons];omega
 ·rw [if_neg h,if_neg h];omega
theorem qz {kinds:List Str} {ws:List V} (hk:Kinds kinds):∀(sh:List V) (p:Nat) (u u':Und),(∀v∈sh,isW v)→dk kinds ws sh p u=some u'→u'.hs.length=u.hs.length+(ba kinds sh).length∧∀h∈u'.hs,h∈u.hs∨p≤h
 | [],p,u,u',_,h=>by
  have h:some u=some u':=h
  cases h
  exact ⟨rfl,fun _ m=>.inl m⟩
 | v::r,p,u,u',hw,h=>by
  rw [mi] at h
  by_cases c:lies (cf kinds v) v (ws.getD p .non)=true
  ·rw [if_pos c] at h
   obtain ⟨i1,i2⟩:=qz hk r _ _ u' (fun x m=>hw x (List.mem_cons_of_mem _ m)) h
   have hv:=hw v List.mem_cons_self
   rw [Gj]
   by_cases e:isH kinds v=true
   ·have e':=(nr hk hv).mpr e
    have ep:u.put (cf kinds v) p (ws.getD p .non)=⟨u.hs++[p],u.ns,u.vs⟩:=by
     unfold Und.put
     rw [if_pos e']
    rw [ep] at i1 i2
    rw [if_pos e'] at i2
    rw [if_pos e]
    have i1:u'.hs.length=(u.hs++[p]).length+(ba kinds r).length:=i1
    rw [List.length_append,List.length_singleton] at i1
    refine ⟨by omega,fun h m=>?_⟩
    have le:p≤endAt ws p:=Nat.le_add_right _ _
    rcases i2 h m with g | g
    ·rcases List.mem_append.mp (show h∈u.hs++[p] from g) with g | g
     ·exact .inl g
     ·rw [List.mem_singleton.mp g];exact .inr (Nat.le_refl _)
    ·exact .inr (by omega)
   ·have e':¬cf kinds v=lH:=fun z=>e ((nr hk hv).mp z)
    have ep:(u.put (cf kinds v) p (ws.getD p .non)).hs=u.hs:=by
     unfold Und.put
     rw [if_neg e']
     split
     ·rfl
     split
     ·rfl
     ·rfl
    rw [ep] at i1 i2
    rw [if_neg e'] at i2
    rw [if_neg e]
    refine ⟨by omega,fun h m=>?_⟩
    rcases i2 h m with g | g
    ·exact .inl g
    ·exact .inr (by omega)
  ·rw [if_neg c] at h
   cases h
theorem kc {kinds:List Str} {rs:List Rl} {ws:List V} (bk:Bk kinds rs) {p:Nat} {f:Fr} (h:f∈bo kinds rs ws p):1≤f.own∧f.kind∈kinds∧(∀k∈f.hs,p≤k.1)∧∃r∈rs,r.name=f.name∧r.kind=f.kind∧r.price=f.own∧∃u,dk kinds ws r.shape p ⟨[],[],[]⟩=some u∧f.hs=u.hs.zip (ba kinds r.shape):=by
 obtain ⟨r,hr,e⟩:=List.mem_filterMap.mp h
 obtain ⟨u,hu,rfl⟩:=Option.map_eq_some_iff.mp e
 refine ⟨bk.pr r hr,bk.rk r hr,fun k hk=>?_,r,hr,rfl,rfl,rfl,u,hu,rfl⟩
 have:=(qz bk.kd r.shape p _ u (bk.sh r hr).1 hu).2 k.1 (List.of_mem_zip (show (k.1,k.2)∈u.hs.zip (ba kinds r.shape) from hk)).1
 rcases this with g | g
 ·cases g
 ·exact g
theorem Ht (kinds:List Str) (rs:List Rl) (ws:List V) (p:Nat):(bo kinds rs ws p).length≤rs.length:=List.length_filterMap_le _ _
end Pc
namespace Pc
open PySem PySem.Spec L2 PyProof.Rows Fm
noncomputable def gOf (H:Hp) (d:Addr):Ky→Option Int:=fun k=>match H d with
 | some (.dT kvs)=>match cz kvs (kyK k) with
  | some (.int i)=>some i
  | _=>none
 | _=>none
theorem zc {H:Hp} {d:Addr} {g:Ky→Option Int} {n:Nat} (h:cv H d g n):gOf H d=g:=by
 obtain ⟨kvs,h1,_,h3⟩:=h
 funext k
 unfold gOf
 rw [h1]
 show (match cz kvs (kyK k) with | some (.int i)=>some i | _=>none)=g k
 rw [h3 k]
 cases g k <;> rfl
structure SetI (p:Nat) (fs:List Fr) (g0:Ky→Option Int) (Ok:(Ky→Option Int)→Prop) (g:Ky→Option Int):Prop where
 ok:Ok g
 far:∀k,k.1≠p→g k=g0 k
 due:∀k v,k.1=p→g k=some v→∃f∈fs.map (dv p),f.key=k∧∃c,cost g f.own f.hs=some c∧c≤v
theorem SetI.put {p:Nat} {fs:List Fr} {g0:Ky→Option Int} {Ok:(Ky→Option Int)→Prop} {g:Ky→Option Int} (h:SetI p fs g0 Ok g) {f:Fr} (hf:f∈fs) {c:Int} (hc:cost g f.own f.hs=some c) (im:Imp g (p,f.kind) c) (ok':Ok (eh g (p,f.kind) c)):SetI p fs g0 Ok (eh g (p,f.kind) c):=by
 refine ⟨ok',fun k hk=>?_,fun k v hk hv=>?_⟩
 ·rw [dh fun e=>hk (by rw [e])]
  exact h.far k hk
 ·have up:∀{f':Ft Ky} {c':Int},cost g f'.own f'.hs=some c'→∃x,cost (eh g (p,f.kind) c) f'.own f'.hs=some x∧x≤c':=fun h=>qy (fun k _ v hv=>im.le hv) (Int.le_refl _) h
  by_cases e:k=(p,f.kind)
  ·subst e
   rw [cb] at hv
   cases hv
   obtain ⟨x,hx,le⟩:=up (f':=dv p f) hc
   exact ⟨dv p f,List.mem_map.mpr ⟨f,hf,rfl⟩,rfl,x,hx,le⟩
  ·rw [dh e] at hv
   obtain ⟨f',hf',e',c',hc',le⟩:=h.due k v hk hv
   obtain ⟨x,hx,le'⟩:=up hc'
   exact ⟨f',hf',e',x,hx,by omega⟩
def Kl (p:Nat) (g:Ky→Option Int) (f:Fr):Prop:=∀c,cost g f.own f.hs=some c→∃v,g (p,f.kind)=some v∧v≤c
theorem Gm {p:Nat} {fs:List Fr} {g:Ky→Option Int} (h:∀(j:Nat) (f:Fr),fs[j]?=some f→Kl p g f):iu (fs.map (dv p)) g:=fun f' hf' c hc=>by
 obtain ⟨f,hf,rfl⟩:=List.mem_map.mp hf'
 obtain ⟨j,hj⟩:=List.mem_iff_getElem?.mp hf
 exact h j f hj c hc
theorem cnt_up {p:Nat} {fs:List Fr} {g:Ky→Option Int} {f:Fr} (hf:f∈fs) {c:Int} {n:Nat}:(if (g (p,f.kind)).isSome then n+cnt (fs.map (dv p)) g else n+cnt (fs.map (dv p)) g+1)≤n+cnt (fs.map (dv p)) (eh g (p,f.kind) c):=by
 cases e:g (p,f.kind) with
 | none=>
  have:=sd (c:=c) e (fs.map (dv p)) ⟨dv p f,List.mem_map.mpr ⟨f,hf,rfl⟩,rfl⟩
  simp only [Option.isSome_none,Bool.false_eq_true,if_false]
  omega
 | some v=>
  have:=j0 (g:=g) (g':=eh g (p,f.kind) c) (fs.map (dv p)) fun f' _ e=>by
   by_cases q:f'.key=(p,f.kind)
   ·rw [q,cb];rfl
   ·rw [dh q];exact e
  simp only [Option.isSome_some,if_true]
  omega
theorem au.tb {d:Addr} {H:Hp} (o:HO):au d H (L2.upd H d o):=fun b u n h=>by rw [af n];exact h
noncomputable def blAt (σ:List (Option V)):Nat:=match σ[3]? with
 | some (some (V.bl false))=>1
 | _=>0
end Pc
namespace Pc
open PySem PySem.Spec L2 PyProof.Rows Fm
structure wb (kinds:List Str) (rs:List Rl) (ws:List V) (p:Nat) (g:Ky→Option Int):Prop where
 at':∀k v,g k=some v→p≤k.1∧k.1 < ws.length
 st:∀q,p≤q→q < ws.length→iu ((bo kinds rs ws q).map (dv q)) g
 due:∀k v,g k=some v→∃f∈(bo kinds rs ws k.1).map (dv k.1),f.key=k∧∃c,cost g f.own f.hs=some c∧c≤v
 pos:∀k v,g k=some v→1≤v
theorem wb.start (kinds:List Str) (rs:List Rl) (ws:List V):wb kinds rs ws ws.length (fun _=>none):=⟨(fun k v h=>nomatch h),(fun q h1 h2=>by omega),(fun k v h=>nomatch h),(fun k v h=>nomatch h)⟩
theorem ur {kinds:List Str} {rs:List Rl} {ws:List V} (bk:Bk kinds rs) {p q:Nat} {g g':Ky→Option Int} (hq:p < q) (far:∀k,k.1≠p→g' k=g k) {f:Fr} (hf:f∈bo kinds rs ws q) (c:Int):cost g' c f.hs=cost g c f.hs:=t4 fun k hk=>far k (by have:=(kc bk hf).2.2.1 k hk;omega)
theorem wb.step {kinds:List Str} {rs:List Rl} {ws:List V} (bk:Bk kinds rs) {p:Nat} {g g':Ky→Option Int} (h:wb kinds rs ws (p+1) g) (hp:p < ws.length) (st:iu ((bo kinds rs ws p).map (dv p)) g') (far:∀k,k.1≠p→g' k=g k)
  (due:∀k v,k.1=p→g' k=some v→∃f∈(bo kinds rs ws p).map (dv p),f.key=k∧∃c,cost g' f.own f.hs=some c∧c≤v) (pos:∀k v,g' k=some v→1≤v):wb kinds rs ws p g':=by
 refine ⟨fun k v hv=>?_,fun q h1 h2=>?_,fun k v hv=>?_,pos⟩
 ·by_cases e:k.1=p
  ·omega
  ·rw [far k e] at hv
   have:=h.at' k v hv
   omega
 ·by_cases e:q=p
  ·subst e;exact st
  ·intro f hf c hc
   obtain ⟨f',hf',rfl⟩:=List.mem_map.mp hf
   have hc:cost g' f'.own f'.hs=some c:=hc
   rw [ur bk (show p < q by omega) far hf'] at hc
   obtain ⟨v,hv,le⟩:=h.st q (by omega) h2 (dv q f') hf c hc
   exact ⟨v,by rw [far _ (show q≠p from e)];exact hv,le⟩
 ·by_cases e:k.1=p
  ·obtain ⟨f,hf,e1,r⟩:=due k v e hv
   rw [e]
   exact ⟨f,hf,e1,r⟩
  ·rw [far k e] at hv
   obtain ⟨f,hf,e1,c,hc,le⟩:=h.due k v hv
   obtain ⟨f',hf',rfl⟩:=List.mem_map.mp hf
   have:=(h.at' k v hv).1
   refine ⟨_,hf,e1,c,?_,le⟩
   show cost g' f'.own f'.hs=some c
   rw [ur bk (show p < k.1 by omega) far hf']
   exact hc
theorem Jc {kinds:List Str} {rs:List Rl} {ws:List V} (bk:Bk kinds rs) {p q:Nat} {g g':Ky→Option Int} (hq:p < q) (far:∀k,k.1≠p→g' k=g k) (ks:List Str):df ks (bo kinds rs ws q) q g'=df ks (bo kinds rs ws q) q g:=by
 unfold df
 have e:(fun k=>(g' (q,k)).map fun v=>(⟨q,k,v,namesW (bo kinds rs ws q) g' k v⟩:Rw))=fun k=>(g (q,k)).map fun v=>⟨q,k,v,namesW (bo kinds rs ws q) g k v⟩:=by
  funext k
  rw [far (q,k) (show q≠p by omega)]
  congr 1
  funext v
  congr 1
  unfold namesW
  congr 1
  apply List.filter_congr
  intro f hf
  rw [ur bk hq far hf]
 rw [e]
theorem wb.tbl {kinds:List Str} {rs:List Rl} {ws:List V} {g:Ky→Option Int} (h:wb kinds rs ws 0 g):Tbl (qm kinds rs ws) g:=by
 refine ⟨fun f hf c hc=>?_,fun k v hv=>?_,h.pos⟩
 ·obtain ⟨q,hq,hf⟩:=List.mem_flatMap.mp hf
  exact h.st q (Nat.zero_le _) (List.mem_range.mp hq) f hf c hc
 ·obtain ⟨f,hf,e,r⟩:=h.due k v hv
  exact ⟨f,List.mem_flatMap.mpr ⟨k.1,List.mem_range.mpr (h.at' k v hv).2,hf⟩,e,r⟩
def fw (H0 H:Hp) (pl:Addr) (pa:List Addr) (kinds:List Str) (rs:List Rl) (ws:List V) (p:Nat) (g:Ky→Option Int):Prop:=pa.length=ws.length - p∧∀q,p≤q→q < ws.length→∃a bs,pa[ws.length - 1 - q]?=some a∧¬(H0 a≠none∨a=pl)∧H a=some (.lst (bs.map V.ref))∧cg H (fun x=>H0 x≠none∨x=pl) bs (df (cq kinds) (bo kinds rs ws q) q g)
theorem fw.kx {H0 H H':Hp} {pl:Addr} {pa:List Addr} {kinds:List Str} {rs:List Rl} {ws:List V} {p:Nat} {g:Ky→Option Int} (h:fw H0 H pl pa kinds rs ws p g) (x:Kx (fun x=>H0 x≠none∨x=pl) H H'):fw H0 H' pl pa kinds rs ws p g:=⟨h.1,fun q h1 h2=>by
 obtain ⟨a,bs,g1,g2,g3,g4⟩:=h.2 q h1 h2
 exact ⟨a,bs,g1,g2,x.l g2 g3,g4.kx x⟩⟩
theorem fw.snoc {H0 H:Hp} {pl:Addr} {pa:List Addr} {kinds:List Str} {rs:List Rl} {ws:List V} {p:Nat} {g g':Ky→Option Int} (bk:Bk kinds rs) (h:fw H0 H pl pa kinds rs ws (p+1) g) (hp:p < ws.length) (far:∀k,k.1≠p→g' k=g k) {a:Addr} {bs:List Addr} (ha:¬(H0 a≠none∨a=pl)) (h1:H a=some (.lst (bs.map V.ref))) (h2:cg H (fun x=>H0 x≠none∨x=pl) bs (df (cq kinds) (bo kinds rs ws p) p g')):fw H0 H pl (pa++[a]) kinds rs ws p g':=by
 have hl:=h.1
 refine ⟨by rw [List.length_append,List.length_singleton,hl];omega,fun q h3 h4=>?_⟩
 by_cases e:q=p
 ·subst e
  exact ⟨a,bs,by rw [List.getElem?_append_right (by omega),hl,show ws.length - 1 - q - (ws.length - (q+1))=0 by omega];rfl,ha,h1,h2⟩
 ·obtain ⟨a',bs',g1,g2,g3,g4⟩:=h.2 q (by omega) h4
  refine ⟨a',bs',by rw [List.getElem?_append_left (by omega)];exact g1,g2,g3,?_⟩
  rw [Jc bk (show p < q by omega) far]
  exact g4
theorem ue (ks:List Str) (fs:List Fr) (p:Nat) (g:Ky→Option Int):(df ks fs p g).length≤ks.length:=List.length_filterMap_le _ _
noncomputable def je (kinds:List Str) (rs:List Rl) (ws:List V) (g:Ky→Option Int) (i:Nat):List Rw:=(List.range i).flatMap fun p=>df (cq kinds) (bo kinds rs ws p) p g
theorem gu (kinds:List Str) (rs:List Rl) (ws:List V) (g:Ky→Option Int) (i:Nat):je kinds rs ws g (i+1)=je kinds rs ws g i++df (cq kinds) (bo kinds rs ws i) i g:=by
 unfold je
 rw [List.range_succ,List.flatMap_append]
 simp
theorem me (kinds:List Str) (rs:List Rl) (ws:List V) (g:Ky→Option Int) (hk:kinds.length≤60):∀i,(je kinds rs ws g i).length≤60*i
 | 0=>Nat.le_refl _
 | i+1=>by
  rw [gu,List.length_append]
  have h1:=me kinds rs ws g hk i
  have h2:=ue (cq kinds) (bo kinds rs ws i) i g
  rw [pe] at h2
  omega
end Pc
namespace Pc
open PySem PySem.Spec L2 PyProof.Rows Fm
theorem vq {kinds:List Str} {rs:List Rl} {ws:List V} {g:Ky→Option Int} (T:Tbl (qm kinds rs ws) g) {r:Rw} (h:r∈rowsOf kinds rs ws g):∃nm,r.names.head?=some nm:=by
 obtain ⟨p,hp,h⟩:=List.mem_flatMap.mp h
 obtain ⟨k,hk,e⟩:=List.mem_filterMap.mp h
 obtain ⟨v,hv,rfl⟩:=Option.map_eq_some_iff.mp e
 obtain ⟨f,hf,e1,hc⟩:=T.exact hv
 obtain ⟨p',_,hf⟩:=List.mem_flatMap.mp hf
 obtain ⟨f',hf',rfl⟩:=List.mem_map.mp hf
 have e1:(p',f'.kind)=(p,k):=e1
 obtain ⟨rfl,rfl⟩:=Prod.mk.inj e1
 have hm:f'.name∈namesW (bo kinds rs ws p') g f'.kind v:=List.mem_map.mpr ⟨f',List.mem_filter.mpr ⟨hf',decide_eq_true ⟨rfl,hc⟩⟩,rfl⟩
 show ∃nm,(namesW (bo kinds rs ws p') g f'.kind v).head?=some nm
 cases e:namesW (bo kinds rs ws p') g f'.kind v with
 | nil=>rw [e] at hm;cases hm
 | cons x xs=>exact ⟨x,rfl⟩
def jl (H:Hp) (bs:List Addr) (rows:List Rw):Prop:=bs.length=rows.length∧∀(j:Nat) (r:Rw),rows[j]?=some r→∃a nm,bs[j]?=some a∧r.names.head?=some nm∧H a=some (.tup [.int (r.place:Int),.str r.kind,.int r.price,.str nm])
theorem jl.same {H H':Hp} {bs:List Addr} {rows:List Rw} (h:jl H bs rows) (s:ao H H'):jl H' bs rows:=⟨h.1,fun j r e=>by
 obtain ⟨a,nm,h1,h2,h3⟩:=h.2 j r e
 exact ⟨a,nm,h1,h2,s _ _ h3⟩⟩
def m8:Sp:=fun vs H Q _=>∃(b wt:Addr) (kinds:List Str) (rs:List Rl) (ws:List V),vs=[.ref b,.ref wt]∧dg H b kinds rs∧H wt=some (.tup ws)∧Bk kinds rs∧Tw ws∧∀(l:Addr) (bs:List Addr) (H':Hp) (g:Ky→Option Int),ao H H'→H l=none→H' l=some (.lst (bs.map V.ref))→Tbl (qm kinds rs ws) g→jl H' bs (rowsOf kinds rs ws g)→Q (.ref l) H'
end Pc
namespace Pc
open PySem PySem.Spec L2 PyProof.Rows Fm
theorem jl.tk {H H':Hp} {bs:List Addr} {rows:List Rw} (h:jl H bs rows) (s:TK H H'):jl H' bs rows:=⟨h.1,fun j r e=>by
 obtain ⟨a,nm,h1,h2,h3⟩:=h.2 j r e
 exact ⟨a,nm,h1,h2,s _ _ h3⟩⟩
theorem jl.snoc {H:Hp} {bs:List Addr} {rows:List Rw} (h:jl H bs rows) {a:Addr} {r:Rw} {nm:Str} (hn:r.names.head?=some nm) (ha:H a=some (.tup [.int (r.place:Int),.str r.kind,.int r.price,.str nm])):jl H (bs++[a]) (rows++[r]):=by
 refine ⟨by rw [List.length_append,List.length_append,h.1];rfl,fun i r' hi=>?_⟩
 by_cases c:i < rows.length
 ·rw [List.getElem?_append_left c] at hi
  obtain ⟨a',nm',g1,g2⟩:=h.2 i r' hi
  exact ⟨a',nm',by rw [List.getElem?_append_left (by rw [h.1];exact c)];exact g1,g2⟩
 ·rw [List.getElem?_append_right (by omega)] at hi
  have hz:i - rows.length=0:=by
   rcases Nat.eq_zero_or_pos (i - rows.length) with g | g
   ·exact g
   ·rw [List.getElem?_eq_none (by rw [List.length_singleton];omega)] at hi;cases hi
  rw [hz] at hi
  cases hi
  exact ⟨a,nm,by rw [List.getElem?_append_right (by rw [h.1];omega),h.1,hz];rfl,hn,ha⟩
theorem cg.get {no:Addr→Prop} {H:Hp} {as:List Addr} {rows:List Rw} (h:cg H no as rows) {i:Nat} {t:Addr} (ht:as[i]?=some t):∃r nl,rows[i]?=some r∧H t=some (.tup [.int (r.place:Int),.str r.kind,.int r.price,.ref nl])∧H nl=some (.lst (r.names.map V.str)):=by
 have hi:i < rows.length:=by rw [←h.1];exact (List.getElem?_eq_some_iff.mp ht).1
 obtain ⟨a,h1,nl,_,h3,h4⟩:=h.2 i _ (List.getElem?_eq_getElem hi)
 obtain rfl:a=t:=Option.some.inj (h1.symm.trans ht)
 exact ⟨_,nl,List.getElem?_eq_getElem hi,h3,h4⟩
theorem uo {kinds:List Str} {rs:List Rl} {ws:List V} {g:Ky→Option Int} (bk:Bk kinds rs) (tw:Tw ws):(rowsOf kinds rs ws g).length≤60000:=by
 have h1:=me kinds rs ws g bk.kl ws.length
 have h2:=tw.len
 have h1:(rowsOf kinds rs ws g).length≤60*ws.length:=h1
 omega
end Pc
namespace Pc
open PySem PySem.Spec L2 PyProof.Rows Fm
noncomputable def jj (r:Rw):Ky:=(r.place,r.kind)
theorem jo (fs:List Fr) (p:Nat) (g:Ky→Option Int):∀ks:List Str,(df ks fs p g).map jj=(ks.filter fun k=>(g (p,k)).isSome).map fun k=>(p,k)
 | []=>rfl
 | k::ks=>by
  have ih:=jo fs p g ks
  unfold df at ih ⊢
  rw [List.filterMap_cons,List.filter_cons]
  cases e:g (p,k) with
  | none=>simpa using ih
  | some v=>
   show jj ⟨p,k,v,_⟩::_=_
   rw [if_pos (by rfl),List.map_cons]
   congr 1
theorem Dg {kinds:List Str} (h:kinds.Nodup):(cq kinds).Nodup:=(gn kinds).nodup_iff.mpr h
theorem ka {α β:Type} {f:α→β} (hf:∀a b,f a=f b→a=b):∀{l:List α},l.Nodup→(l.map f).Nodup
 | [],_=>List.nodup_nil
 | a::l,h=>by
  obtain ⟨h1,h2⟩:=List.nodup_cons.mp h
  rw [List.map_cons]
  refine List.nodup_cons.mpr ⟨fun m=>?_,ka hf h2⟩
  obtain ⟨b,hb,e⟩:=List.mem_map.mp m
  exact h1 (hf _ _ e ▸ hb)
theorem oo {kinds:List Str} (hk:kinds.Nodup) (rs:List Rl) (ws:List V) (g:Ky→Option Int):∀i,((je kinds rs ws g i).map jj).Nodup∧∀k∈(je kinds rs ws g i).map jj,k.1 < i
 | 0=>⟨List.nodup_nil,fun k h=>nomatch h⟩
 | i+1=>by
  obtain ⟨h1,h2⟩:=oo hk rs ws g i
  rw [gu,List.map_append,jo]
  have one:∀k∈((cq kinds).filter fun k=>(g (i,k)).isSome).map (fun k=>(i,k)),k.1=i:=fun k hk=>by
   obtain ⟨z,_,rfl⟩:=List.mem_map.mp hk
   rfl
  refine ⟨List.nodup_append.mpr ⟨h1,ka (fun a b e=>(Prod.mk.inj e).2) ((Dg hk).sublist List.filter_sublist),fun a ha b hb e=>?_⟩,fun k hk=>?_⟩
  ·have:=h2 a ha
   have:=one b hb
   rw [e] at*
   omega
  ·rcases List.mem_append.mp hk with m | m
   ·have:=h2 k m;omega
   ·have:=one k m;omega
theorem t8 {kinds:List Str} {rs:List Rl} {ws:List V} {g:Ky→Option Int} {r:Rw} (h:r∈rowsOf kinds rs ws g):r.place < ws.length∧g (r.place,r.kind)=some r.price∧r.names=namesW (bo kinds rs ws r.place) g r.kind r.price:=by
 obtain ⟨p,hp,h⟩:=List.mem_flatMap.mp h
 obtain ⟨k,hk,e⟩:=List.mem_filterMap.mp h
 obtain ⟨v,hv,rfl⟩:=Option.map_eq_some_iff.mp e
 exact ⟨List.mem_range.mp hp,hv,rfl⟩
theorem Kn {kinds:List Str} {rs:List Rl} {ws:List V} {g:Ky→Option Int} (bk:Bk kinds rs) (T:Tbl (qm kinds rs ws) g) {k:Ky} {v:Int} (h:g k=some v):∃r∈rowsOf kinds rs ws g,r.place=k.1∧r.kind=k.2∧r.price=v:=by
 obtain ⟨f,hf,e,_⟩:=T.exact h
 obtain ⟨p,hp,hf⟩:=List.mem_flatMap.mp hf
 obtain ⟨f',hf',rfl⟩:=List.mem_map.mp hf
 have e:(p,f'.kind)=k:=e
 subst e
 refine ⟨⟨p,f'.kind,v,namesW (bo kinds rs ws p) g f'.kind v⟩,List.mem_flatMap.mpr ⟨p,hp,List.mem_filterMap.mpr ⟨f'.kind,Gw.mpr (kc bk hf').2.1,?_⟩⟩,rfl,rfl,rfl⟩
 rw [h]
 rfl
theorem xh:∀(ps acc:List (List Key×V)),((acc++ps).map (·.1)).Nodup→jx ps acc=acc++ps
 | [],acc,_=>(List.append_nil _).symm
 | p::ps,acc,h=>by
  have hn:cz acc p.1=none:=by
   cases e:cz acc p.1 with
   | none=>rfl
   | some v=>
    have hm:=Oy e
    rw [List.map_append] at h
    exact absurd rfl ((List.nodup_append.mp h).2.2 _ hm _ (List.mem_map.mpr ⟨p,List.mem_cons_self,rfl⟩))
  show jx ps (putK acc p.1 p.2)=_
  rw [Ba p.2 hn,xh ps _ (by rw [List.append_assoc];exact h),List.append_assoc]
  rfl
theorem Fj {κ:Type} [DecidableEq κ]:∀{ps:List (κ×V)} {k:κ} {v:V},(ps.map (·.1)).Nodup→(k,v)∈ps→cz ps k=some v
 | [],_,_,_,h=>nomatch h
 | p::ps,k,v,nd,h=>by
  have nd:(p.1::ps.map (·.1)).Nodup:=nd
  obtain ⟨n1,n2⟩:=List.nodup_cons.mp nd
  rcases List.mem_cons.mp h with e | h
  ·rw [b0 (by rw [←e]),←e]
  ·have ne:¬p.1=k:=fun e=>n1 (e ▸ List.mem_map.mpr ⟨_,h,rfl⟩)
   rw [bz ne]
   exact Fj n2 h
theorem An {kinds:List Str} {rs:List Rl} {ws:List V} (bk:Bk kinds rs):∀f∈qm kinds rs ws,1≤f.own:=fun f hf=>by
 obtain ⟨p,_,hf⟩:=List.mem_flatMap.mp hf
 obtain ⟨f',hf',rfl⟩:=List.mem_map.mp hf
 exact (kc bk hf').1
def mz (K:PySem.W.Frag):Sp:=fun vs H Q _=>∃(kt st:Addr) (kinds:List Str) (sh:List V),vs=[.ref kt,.ref st]∧SqT K H kt (kinds.map V.str)∧SqT K H st sh∧(∀v∈sh,isW v)∧sh.length≤1000∧∀(l:Addr) (H':Hp),ao H H'→H l=none→H' l=some (.lst ((ba kinds sh).map V.str))→Q (.ref l) H'
end Pc
namespace Pc
open PySem PySem.Spec L2 PyProof.Rows Fm
end Pc
namespace L2
theorem ob3 {α0 α1 α2:Type} {p:α0→α1→α2→Prop} {g:Prop} (h:∃a0 a1 a2,p a0 a1 a2) (k:∀a0 a1 a2,p a0 a1 a2→g):g:=by
 obtain ⟨a0,a1,a2,h⟩:=h
 exact k a0 a1 a2 h
theorem ob4 {α0 α1 α2 α3:Type} {p:α0→α1→α2→α3→Prop} {g:Prop} (h:∃a0 a1 a2 a3,p a0 a1 a2 a3) (k:∀a0 a1 a2 a3,p a0 a1 a2 a3→g):g:=by
 obtain ⟨a0,a1,a2,a3,h⟩:=h
 exact k a0 a1 a2 a3 h
theorem ob5 {α0 α1 α2 α3 α4:Type} {p:α0→α1→α2→α3→α4→Prop} {g:Prop} (h:∃a0 a1 a2 a3 a4,p a0 a1 a2 a3 a4) (k:∀a0 a1 a2 a3 a4,p a0 a1 a2 a3 a4→g):g:=by
 obtain ⟨a0,a1,a2,a3,a4,h⟩:=h
 exact k a0 a1 a2 a3 a4 h
theorem ob6 {α0 α1 α2 α3 α4 α5:Type} {p:α0→α1→α2→α3→α4→α5→Prop} {g:Prop} (h:∃a0 a1 a2 a3 a4 a5,p a0 a1 a2 a3 a4 a5) (k:∀a0 a1 a2 a3 a4 a5,p a0 a1 a2 a3 a4 a5→g):g:=by
 obtain ⟨a0,a1,a2,a3,a4,a5,h⟩:=h
 exact k a0 a1 a2 a3 a4 a5 h
theorem ob7 {α0 α1 α2 α3 α4 α5 α6:Type} {p:α0→α1→α2→α3→α4→α5→α6→Prop} {g:Prop} (h:∃a0 a1 a2 a3 a4 a5 a6,p a0 a1 a2 a3 a4 a5 a6) (k:∀a0 a1 a2 a3 a4 a5 a6,p a0 a1 a2 a3 a4 a5 a6→g):g:=by
 obtain ⟨a0,a1,a2,a3,a4,a5,a6,h⟩:=h
 exact k a0 a1 a2 a3 a4 a5 a6 h
theorem ob8 {α0 α1 α2 α3 α4 α5 α6 α7:Type} {p:α0→α1→α2→α3→α4→α5→α6→α7→Prop} {g:Prop} (h:∃a0 a1 a2 a3 a4 a5 a6 a7,p a0 a1 a2 a3 a4 a5 a6 a7) (k:∀a0 a1 a2 a3 a4 a5 a6 a7,p a0 a1 a2 a3 a4 a5 a6 a7→g):g:=by
 obtain ⟨a0,a1,a2,a3,a4,a5,a6,a7,h⟩:=h
 exact k a0 a1 a2 a3 a4 a5 a6 a7 h
theorem ob10 {α0 α1 α2 α3 α4 α5 α6 α7 α8 α9:Type} {p:α0→α1→α2→α3→α4→α5→α6→α7→α8→α9→Prop} {g:Prop} (h:∃a0 a1 a2 a3 a4 a5 a6 a7 a8 a9,p a0 a1 a2 a3 a4 a5 a6 a7 a8 a9) (k:∀a0 a1 a2 a3 a4 a5 a6 a7 a8 a9,p a0 a1 a2 a3 a4 a5 a6 a7 a8 a9→g):g:=by
 obtain ⟨a0,a1,a2,a3,a4,a5,a6,a7,a8,a9,h⟩:=h
 exact k a0 a1 a2 a3 a4 a5 a6 a7 a8 a9 h
open PySem PySem.Spec PyProof.Rows
theorem Jb {K:PySem.W.Frag} {n:Nat} {a:Addr} {x0 x1:V} {i0 i1:Nat} {σ:L2.St} {H:Hp} {Q:L2.St→Hp→Prop} (h:H a=some (.tup [x0,x1])) (hn:2=n) (q:Q ((σ.set i0 (some x0)).set i1 (some x1)) H):Cg K n (eg (ck i0) (eg (ck i1) gNil)) (.ref a) σ H Q:=⟨a,_,rfl,SqT.of h,hn,_,_,rfl,_,_,rfl,rfl,q⟩
theorem Jr {K:PySem.W.Frag} {n:Nat} {a:Addr} {x0 x1 x2 x3:V} {i0 i1 i2 i3:Nat} {σ:L2.St} {H:Hp} {Q:L2.St→Hp→Prop} (h:H a=some (.tup [x0,x1,x2,x3])) (hn:4=n) (q:Q ((((σ.set i0 (some x0)).set i1 (some x1)).set i2 (some x2)).set i3 (some x3)) H):Cg K n (eg (ck i0) (eg (ck i1) (eg (ck i2) (eg (ck i3) gNil)))) (.ref a) σ H Q:=⟨a,_,rfl,SqT.of h,hn,_,_,rfl,_,_,rfl,_,_,rfl,_,_,rfl,rfl,q⟩
theorem K7 {K:PySem.W.Frag} {n:Nat} {a:Addr} {x0 x1 x2 x3 x4:V} {i0 i1 i2 i3 i4:Nat} {σ:L2.St} {H:Hp} {Q:L2.St→Hp→Prop} (h:H a=some (.tup [x0,x1,x2,x3,x4])) (hn:5=n) (q:Q (((((σ.set i0 (some x0)).set i1 (some x1)).set i2 (some x2)).set i3 (some x3)).set i4 (some x4)) H):Cg K n (eg (ck i0) (eg (ck i1) (eg (ck i2) (eg (ck i3) (eg (ck i4) gNil))))) (.ref a) σ H Q:=⟨a,_,rfl,SqT.of h,hn,_,_,rfl,_,_,rfl,_,_,rfl,_,_,rfl,_,_,rfl,rfl,q⟩
end L2
namespace Pc
open PySem PySem.Spec L2 PyProof.Rows Fm
theorem O0 {K:PySem.W.Frag} {v:V} {kt:Addr} {kinds:List Str} {H:Hp} {Q:VK} {E:XK} (p0:isW v) (p1:SqT K H kt (kinds.map V.str)) (p2:Q (.str (cf kinds v)) H):(jd K) [v,.ref kt] H Q E:=⟨v,kt,kinds,rfl,p0,p1,p2⟩
theorem mkLies {l:Str} {v x:V} {H:Hp} {Q:VK} {E:XK} (p0:isW v) (p1:isW x) (p2:Q (.bl (lies l v x)) H):ze [.str l,v,x] H Q E:=⟨l,v,x,rfl,p0,p1,p2⟩
theorem mkLaid {K:PySem.W.Frag} {st kt wt:Addr} {sh:List V} {kinds:List Str} {ws:List V} {p n:Nat} {H:Hp} {Q:VK} {E:XK} (p0:SqT K H st sh) (p1:SqT K H kt (kinds.map V.str)) (p2:SqT K H wt ws) (p3:Kinds kinds) (p4:(∀v∈sh,isW v)) (p5:(∀v∈ws,isW v)) (p6:isTerm sh) (p7:eat 1 ((ws.drop p).map arV)=some n) (p8:sh.length≤1000) (p9:ws.length≤1000) (p10:∀H',ao H H'→told (dk kinds ws sh p ⟨[],[],[]⟩) H' Q):(yc K) [.ref st,.ref kt,.ref wt,.int (p:Int)] H Q E:=⟨st,kt,wt,sh,kinds,ws,p,n,rfl,p0,p1,p2,p3,p4,p5,p6,p7,p8,p9,p10⟩
theorem mkEnds {K:PySem.W.Frag} {t:Addr} {ws:List V} {H:Hp} {Q:VK} {E:XK} (p0:SqT K H t ws) (p1:(∀v∈ws,isW v)) (p2:isTerm ws) (p3:ws.length≤1000) (p4:∀(l:Addr) (H':Hp),ao H H'→H l=none→H' l=some (.lst ((List.range ws.length).map fun q=>plV (endAt ws q)))→Q (.ref l) H'):(y9 K) [.ref t] H Q E:=⟨t,ws,rfl,p0,p1,p2,p3,p4⟩
theorem Nu {K:PySem.W.Frag} {st kt wt et:Addr} {sh:List V} {kinds:List Str} {ws:List V} {p:Nat} {H:Hp} {Q:VK} {E:XK} (p0:SqT K H st sh) (p1:SqT K H kt (kinds.map V.str)) (p2:SqT K H wt ws) (p3:H et=some (.lst ((List.range ws.length).map fun q=>plV (endAt ws q)))) (p4:Kinds kinds) (p5:(∀v∈sh,isW v)) (p6:isTerm sh) (p7:sh.length≤1000) (p8:Tw ws) (p9:p < ws.length) (p10:∀H',ao H H'→told (dk kinds ws sh p ⟨[],[],[]⟩) H' Q):(qx K) [.ref kt,.ref st,.ref wt,.ref et,.int (p:Int)] H Q E:=⟨st,kt,wt,et,sh,kinds,ws,p,rfl,p0,p1,p2,p3,p4,p5,p6,p7,p8,p9,p10⟩
theorem M6 {f d:Addr} {xs:List V} {H:Hp} {Q:VK} {E:XK} (p0:H f=some (.tup xs)) (p1:H d=some (.tup xs)) (p2:(∀v∈xs,isW v)) (p3:xs.length≤1000) (p4:∀H',ao H H'→Q (.bl true) H'):qu [.ref f,.ref d] H Q E:=⟨f,d,xs,rfl,p0,p1,p2,p3,p4⟩
theorem Oe {d nl b:Addr} {ns:List Int} {zs:List Str} {m n:Nat} {H:Hp} {Q:VK} {E:XK} (p0:fk H d b ns n) (p1:cw H nl zs) (p2:1≤m) (p3:m≤120) (p4:n≤50000) (p5:∀(t:Addr) (n':Nat) (H':Hp) (ws:List V),au d H H'→H' d=some (.lst [.ref b,.int (n':Int)])→n'≤n+m→H t=none→H' t=some (.tup ws)→Tw ws→ws.length≤m→Q (.ref t) H'):sm [.ref d,.ref nl,.int (m:Int)] H Q E:=⟨d,nl,b,ns,zs,m,n,rfl,p0,p1,p2,p3,p4,p5⟩
theorem Nj {d kt b:Addr} {ns:List Int} {kinds:List Str} {n:Nat} {H:Hp} {Q:VK} {E:XK} (p0:fk H d b ns n) (p1:H kt=some (.tup (kinds.map V.str))) (p2:Kinds kinds) (p3:1≤kinds.length) (p4:kinds.length≤20) (p5:n≤50000) (p6:∀(t:Addr) (n':Nat) (H':Hp) (sh:List V),au d H H'→H' d=some (.lst [.ref b,.int (n':Int)])→n'≤n+12→H t=none→H' t=some (.tup sh)→jn kinds sh→Q (.ref t) H'):rf [.ref d,.ref kt] H Q E:=⟨d,kt,b,ns,kinds,n,rfl,p0,p1,p2,p3,p4,p5,p6⟩
theorem Nq {K:PySem.W.Frag} {kt st:Addr} {kinds:List Str} {sh:List V} {H:Hp} {Q:VK} {E:XK} (p0:H kt=some (.tup (kinds.map V.str))) (p1:H st=some (.tup sh)) (p2:Kinds kinds) (p3:jn kinds sh) (p4:∀(t:Addr) (ds:List V) (H':Hp),ao H H'→H' t=some (.tup ds)→Q (.ref t) H'):(se K) [.ref kt,.ref st] H Q E:=⟨kt,st,kinds,sh,rfl,p0,p1,p2,p3,p4⟩
theorem mkBook {d nl b:Addr} {ns:List Int} {zs:List Str} {n:Nat} {H:Hp} {Q:VK} {E:XK} (p0:fk H d b ns n) (p1:cw H nl zs) (p2:n≤1000) (p3:∀(bt:Addr) (n':Nat) (H':Hp) (kinds:List Str) (rs:List Rl),au d H H'→H' d=some (.lst [.ref b,.int (n':Int)])→n'≤n+1000→dg H' bt kinds rs→Bk kinds rs→1≤rs.length→Q (.ref bt) H'):yp [.ref d,.ref nl] H Q E:=⟨d,nl,b,ns,zs,n,rfl,p0,p1,p2,p3⟩
theorem Lr {d b:Addr} {ns:List Int} {n:Nat} {H:Hp} {Q:VK} {E:XK} (p0:fk H d b ns n) (p1:n≤1000) (p2:∀(l:Addr) (H':Hp) (zs:List Str),au d H H'→H' d=some (.lst [.ref b,.int ((n+1:Nat):Int)])→cw H' l zs→Q (.ref l) H'):ni [.ref d] H Q E:=⟨d,b,ns,n,rfl,p0,p1,p2⟩
theorem Kg {K:PySem.W.Frag} {st kt ut:Addr} {sh:List V} {kinds:List Str} {u:Und} {H:Hp} {Q:VK} {E:XK} (p0:SqT K H st sh) (p1:SqT K H kt (kinds.map V.str)) (p2:Jf H ut u) (p3:Kinds kinds) (p4:(∀v∈sh,isW v)) (p5:sh.length≤1000) (p6:u.hs.length=(ba kinds sh).length) (p7:∀(l:Addr) (H':Hp),ao H H'→H l=none→mn H' l (u.hs.zip (ba kinds sh))→Q (.ref l) H'):(n0 K) [.ref st,.ref kt,.ref ut] H Q E:=⟨st,kt,ut,sh,kinds,u,rfl,p0,p1,p2,p3,p4,p5,p6,p7⟩
theorem Hg {b wt:Addr} {kinds:List Str} {rs:List Rl} {ws:List V} {p:Nat} {H:Hp} {Q:VK} {E:XK} (p0:dg H b kinds rs) (p1:H wt=some (.tup ws)) (p2:Bk kinds rs) (p3:Tw ws) (p4:p < ws.length) (p5:∀(l:Addr) (as:List Addr) (H':Hp),ao H H'→H l=none→H' l=some (.lst (as.map V.ref))→de H' (fun x=>H x≠none) as (bo kinds rs ws p)→Q (.ref l) H'):j7 [.ref b,.ref wt,.int (p:Int)] H Q E:=⟨b,wt,kinds,rs,ws,p,rfl,p0,p1,p2,p3,p4,p5⟩
theorem L8 {own:Int} {hl d:Addr} {hs:List Ky} {g:Ky→Option Int} {n:Nat} {H:Hp} {Q:VK} {E:XK} (p0:mn H hl hs) (p1:cv H d g n) (p2:Q (match cost g own hs with | none=>.non | some c=>.int c) H):jb [.int own,.ref hl,.ref d] H Q E:=⟨own,hl,d,hs,g,n,rfl,p0,p1,p2⟩
theorem Kf {p:Nat} {fl d:Addr} {as:List Addr} {fs:List Fr} {g:Ky→Option Int} {n:Nat} {H:Hp} {Q:VK} {E:XK} (p0:H fl=some (.lst (as.map V.ref))) (p1:de H (fun _=>False) as fs) (p2:cv H d g n) (p3:n+fs.length≤1000000) (p4:(∀f∈fs,1≤f.own)) (p5:(∀k v,g k=some v→1≤v)) (p6:(∀k,k.1=p→g k=none)) (p7:∀(H':Hp) (g':Ky→Option Int),au d H H'→cv H' d g' (n+fs.length)→iu (fs.map (dv p)) g'→(∀k,k.1≠p→g' k=g k)→(∀k v,k.1=p→g' k=some v→∃f∈fs.map (dv p),f.key=k∧∃c,cost g' f.own f.hs=some c∧c≤v)→(∀k v,g' k=some v→1≤v)→Q .non H'):nj [.int (p:Int),.ref fl,.ref d] H Q E:=⟨p,fl,d,as,fs,g,n,rfl,p0,p1,p2,p3,p4,p5,p6,p7⟩
theorem mkWith {k:Str} {v:Int} {fl d:Addr} {as:List Addr} {fs:List Fr} {g:Ky→Option Int} {n:Nat} {H:Hp} {Q:VK} {E:XK} (p0:H fl=some (.lst (as.map V.ref))) (p1:de H (fun _=>False) as fs) (p2:fs.length≤1000) (p3:cv H d g n) (p4:∀(l:Addr) (H':Hp),ao H H'→H l=none→H' l=some (.lst ((namesW fs g k v).map V.str))→Q (.ref l) H'):ya [.str k,.int v,.ref fl,.ref d] H Q E:=⟨k,v,fl,d,as,fs,g,n,rfl,p0,p1,p2,p3,p4⟩
theorem M3 {b fl d:Addr} {p:Nat} {kinds:List Str} {rs:List Rl} {as:List Addr} {fs:List Fr} {g:Ky→Option Int} {n:Nat} {H:Hp} {Q:VK} {E:XK} (p0:dg H b kinds rs) (p1:kinds.length≤60) (p2:H fl=some (.lst (as.map V.ref))) (p3:de H (fun _=>False) as fs) (p4:fs.length≤1000) (p5:cv H d g n) (p6:∀(l:Addr) (bs:List Addr) (H':Hp),ao H H'→H l=none→H' l=some (.lst (bs.map V.ref))→cg H' (fun x=>H x≠none) bs (df (cq kinds) fs p g)→Q (.ref l) H'):rn [.ref b,.int (p:Int),.ref fl,.ref d] H Q E:=⟨b,fl,d,p,kinds,rs,as,fs,g,n,rfl,p0,p1,p2,p3,p4,p5,p6⟩
theorem Az {b wt:Addr} {kinds:List Str} {rs:List Rl} {ws:List V} {H:Hp} {Q:VK} {E:XK} (p0:dg H b kinds rs) (p1:H wt=some (.tup ws)) (p2:Bk kinds rs) (p3:Tw ws) (p4:∀(l:Addr) (bs:List Addr) (H':Hp) (g:Ky→Option Int),ao H H'→H l=none→H' l=some (.lst (bs.map V.ref))→Tbl (qm kinds rs ws) g→jl H' bs (rowsOf kinds rs ws g)→Q (.ref l) H'):m8 [.ref b,.ref wt] H Q E:=⟨b,wt,kinds,rs,ws,rfl,p0,p1,p2,p3,p4⟩
theorem Ks {K:PySem.W.Frag} {kt st:Addr} {kinds:List Str} {sh:List V} {H:Hp} {Q:VK} {E:XK} (p0:SqT K H kt (kinds.map V.str)) (p1:SqT K H st sh) (p2:(∀v∈sh,isW v)) (p3:sh.length≤1000) (p4:∀(l:Addr) (H':Hp),ao H H'→H l=none→H' l=some (.lst ((ba kinds sh).map V.str))→Q (.ref l) H'):(mz K) [.ref kt,.ref st] H Q E:=⟨kt,st,kinds,sh,rfl,p0,p1,p2,p3,p4⟩
theorem ly {d b:Addr} {ns:List Int} {n:Nat} {H:Hp} {Q:VK} {E:XK} (p0:fk H d b ns n) (p1:n≤100000) (p2:∀(c:Int) (H':Hp),au d H H'→H' d=some (.lst [.ref b,.int ((n+1:Nat):Int)])→Q (.int c) H'):iz [.ref d] H Q E:=⟨d,b,ns,n,rfl,p0,p1,p2⟩
end Pc
namespace L2.Itm
open PySem PySem.Spec PyProof.Rows
section
variable {prog:Program} {w:World} {A:Around} {E:Value→Shared→Prop} {s:Shared} {d:Addr} {es:Array DictEntry} {ep:Nat} {o:Obj}
theorem xv {Q:Value→Shared→Prop} (hd:(d==sysModules)=false) (r:Raw s.heap d es ep o) (q:Q (.ref s.heap.objs.size) { s with heap:=s.heap.push { cls:=.type "dict_keyiterator",data:=.fields #[.ref d,.int 0 0,.int es.size 0,.int ep 0] } }):
  wpAny (model prog w) A (pyIter (.ref d)) Q E s:=by
 refine wpAny_pyIter_slot r.typeIs PySem.F.slot_dict_iter (wpAny_call_entry PySem.F.slot_dict_iter r.typeIs PySem.F.entry_dict_iter ?_ (PySem.F.args_dict_iter_1 _))
 unfold Builtin.«dict.__iter__»
 refine wpAny_bind ?_
 unfold Builtin.Dict.dictSlotNone
 refine wpAny_bind (wpAny_notOrdered_dict r.typeIs (?_:wpAny _ _ (pure (Value.ref d)) _ _ s))
 refine wpAny_pure (?_:wpAny _ _ (Builtin.Dict.showsAll d >>=_) _ _ s)
 unfold Builtin.Dict.showsAll
 rw [if_neg (show ¬(d==sysModules)=true by rw [hd];decide)]
 refine wpAny_bind (wpAny_pure (wpAny_bind (wpAny_dictEntries r.there r.data (wpAny_bind (wpAny_dictEpoch r.there r.data ?_)))))
 refine wpAny_bind (wpAny_newObj_type (wpAny_pure ⟨_,rfl,"dict_keyiterator",_,⟨_,Heap.get?_push_size _ rfl,rfl⟩,PySem.F.slot_dict_keyiterator_next.lookup,?_⟩))
 simpa [rawInt] using q
theorem xt {it:Addr} {i:Nat} {e:DictEntry} {Q:Option Value→Shared→Prop} (hit:s.heap.IsKeyIter it d i es.size ep) (r:Raw s.heap d es ep o) (hx:es[i]?=some e)
  (q:∀h',h'.IsKeyIter it d (i+1) es.size ep→Heap.SameBut it s.heap h'→Q (some e.key) { s with heap:=h' }):wpAny (model prog w) A (pyNext (.ref it)) Q E s:=by
 obtain ⟨oi,ho,hc,hf⟩:=id hit
 have hT:=hit.typeIs
 have own:Builtin.Dict_items.ownsTuple "dict_keyiterator"=false:=by decide
 unfold pyNext
 refine wpAny_bind (wpAny_attempt (wpAny_callSpecial?_slot (name:=Str.ofString "__next__") hT PySem.F.slot_dict_keyiterator_next (wpAny_call_entry PySem.F.slot_dict_keyiterator_next hT PySem.F.entry_dict_keyiterator_next ?_ (PySem.F.args_dict_keyiterator_next_1 _))))
 refine wpAny_bind (wpAny_pure (wpAny_bind (wpAny_bind ?_)))
 refine wpAny_bind (wpAny_typeNameOfWhole_keyiter hT (wpAny_pure (wpAny_bind (wpAny_fieldsOf ho hf ?_))))
 simp only [own,Bool.false_eq_true,if_false]
 refine (show wpAny _ _ (if (Value.ref d==Value.none)=true then _ else _) _ _ s from ?_)
 rw [if_neg (show ¬(Value.ref d==Value.none)=true from fun z=>by cases z)]
 refine wpAny_bind (wpAny_pure (wpAny_bind (wpAny_dictEntries r.there r.data ?_)))
 rw [if_neg (by simp)]
 refine wpAny_bind (wpAny_pure (wpAny_bind (wpAny_dictEpoch r.there r.data ?_)))
 rw [if_neg (by simp)]
 refine wpAny_pure ?_
 simp only [show ¬((i:Int) < 0) by omega,if_false,Int.toNat_natCast,hx]
 refine wpAny_bind ?_
 refine wpAny_bind (wpAny_typeNameOfWhole_keyiter hT (wpAny_pure (wpAny_bind (wpAny_isOneOf_keyiter hT ?_))))
 refine (show wpAny _ _ (setField (.ref it) 1 (rawInt ((i:Int)+1)) >>=_) _ _ s from wpAny_bind (wpAny_setField ho hf (by simp) ?_))
 have hit':(s.heap.update it (Obj.mapFields (·.setIfInBounds 1 (rawInt ((i:Int)+1))))).IsKeyIter it d (i+1) es.size ep:=
  ⟨_,Heap.get?_update_self _ ho (Obj.isFreed_of_fields (Obj.data_mapFields hf _)),(Obj.cls_mapFields ..).trans hc,by rw [Obj.data_mapFields hf];simp [rawInt]⟩
 refine wpAny_bind (wpAny_holding (wpAny_bind (wpAny_isOneOf_keyiter (s:={ s with heap:=s.heap.update it (Obj.mapFields (·.setIfInBounds 1 (rawInt ((i:Int)+1)))) }) hit'.typeIs ?_)))
 exact (show wpAny _ _ (pure e.key) _ _ _ from wpAny_pure (wpAny_pure ⟨_,rfl,wpAny_pure (q _ hit' (Heap.SameBut.update ..))⟩))
theorem Be {it:Addr} {i:Nat} {Q:Option Value→Shared→Prop} (hh:A.handled=none) (hit:s.heap.IsKeyIter it d i es.size ep) (r:Raw s.heap d es ep o) (hx:es.size≤i)
  (q:∀h',Heap.ExtBut it s.heap h'→Q none { s with heap:=h' }):wpAny (model prog w) A (pyNext (.ref it)) Q E s:=by
 obtain ⟨oi,ho,hc,hf⟩:=id hit
 have hT:=hit.typeIs
 have own:Builtin.Dict_items.ownsTuple "dict_keyiterator"=false:=by decide
 unfold pyNext
 refine wpAny_bind (wpAny_attempt (wpAny_callSpecial?_slot (name:=Str.ofString "__next__") hT PySem.F.slot_dict_keyiterator_next (wpAny_call_entry PySem.F.slot_dict_keyiterator_next hT PySem.F.entry_dict_keyiterator_next ?_ (PySem.F.args_dict_keyiterator_next_1 _))))
 refine wpAny_bind (wpAny_pure (wpAny_bind (wpAny_bind ?_)))
 refine wpAny_bind (wpAny_typeNameOfWhole_keyiter hT (wpAny_pure (wpAny_bind (wpAny_fieldsOf ho hf ?_))))
 simp only [own,Bool.false_eq_true,if_false]
 refine (show wpAny _ _ (if (Value.ref d==Value.none)=true then _ else _) _ _ s from ?_)
 rw [if_neg (show ¬(Value.ref d==Value.none)=true from fun z=>by cases z)]
 refine wpAny_bind (wpAny_pure (wpAny_bind (wpAny_dictEntries r.there r.data ?_)))
 rw [if_neg (by simp)]
 refine wpAny_bind (wpAny_pure (wpAny_bind (wpAny_dictEpoch r.there r.data ?_)))
 rw [if_neg (by simp)]
 refine wpAny_pure ?_
 simp only [show ¬((i:Int) < 0) by omega,if_false,Int.toNat_natCast,Array.getElem?_eq_none hx]
 refine wpAny_bind ?_
 refine wpAny_bind (wpAny_typeNameOfWhole_keyiter hT (wpAny_pure ?_))
 refine (show wpAny _ _ (setField (.ref it) 0 .none >>=_) _ _ s from wpAny_bind (wpAny_setField ho hf (by simp) ?_))
 refine (show wpAny _ _ (newExc (.type "StopIteration") [] >>=_) _ _ _ from wpAny_bind ?_)
 simp only [newExc,newTuple]
 refine wpAny_bind (wpAny_newObj_type (wpAny_bind (m:=firstArgMember _ _) (wpAny_of_eq (a:=Value.none) (by first | rfl | (simp only [firstArgMember];rfl)) (wpAny_newObj_type ?_ (by size_fits)))) (by size_fits))
 simp only [raiseNew]
 refine wpAny_bind (wpAny_handled ?_)
 rw [show A.in1.handled=none from hh]
 refine wpAny_bind (wpAny_pure (wpAny_throw ?_))
 exact wpAny_bind (wpAny_isInstance (T:="StopIteration") (b:=true) ⟨_,Heap.get?_push_size _ rfl,rfl⟩ isSubtype_stop (wpAny_pure (q _ (((Heap.SameBut.update ..).extBut.push _).push _))))
end
end L2.Itm
namespace L2
open PySem PySem.Spec PyProof.Rows Itm
noncomputable def Itq (a:Addr) (o:Obj) (kvs:List (List Key×V)):It:=
 ⟨fun i H=>i < kvs.length∧H a=some (.frz o (.dT kvs)),fun i H x H'=>H'=H∧∃t k v,kvs[i]?=some (k,v)∧H t=some (.tup (k.map kV))∧x=.ref t,fun i H=>i=kvs.length∧H a=some (.frz o (.dT kvs))⟩
theorem Cn {P:Program} {w:World} {K:PySem.W.Frag} {tg:Expr} (a it:Addr) (o:Obj) (kvs:List (List Key×V)):Turn P w K tg (Itq a o kvs) [it] it (fun i h=>∃es ep,o.data=.dict es ep∧h.IsKeyIter it a i es.size ep) where
 mem:=by simp
 obj:=fun i h st b hb=>by
  have e:b=it:=by simpa using hb
  subst e
  obtain ⟨_,_,_,o',e',c',d'⟩:=st
  exact ⟨o',e',fun v z=>by rw [d'] at z;cases z⟩
 keep:=fun i h h' st k=>by
  obtain ⟨es,ep,hd,o',ho',r'⟩:=st
  exact ⟨es,ep,hd,o',k it (by simp) o' ho',r'⟩
 item:=by
  intro X hP hw hK hc i pins s σ H E I hf st hg
  subst hP hw hK
  obtain ⟨hi,ha⟩:=hg
  obtain ⟨es,ep,hdat,raw,hsz,get⟩:=zo I.hok ha
  obtain ⟨es',ep',hd',hit⟩:=st
  rw [hdat] at hd'
  cases hd'
  have hkv:kvs[i]?=some (kvs[i].1,kvs[i].2):=List.getElem?_eq_getElem hi
  obtain ⟨t,u,j,he,ht,ru⟩:=get i _ _ hkv
  obtain ⟨f0,f1,f2,f3,f4,f5⟩:=hf it (by simp)
  refine xt hit raw he fun h' st' sb=>?_
  have I1:Inv X pins σ H { s with heap:=h' }:=I.turned (t':=s.toks) (fun b o' hb e'=>(sb.2 b hb).trans e') f0 f1 f3 f4 f5
  obtain ⟨o',e',c',d'⟩:=id st'
  exact ⟨_,rfl,wy (s:={ s with heap:=h' }) e' c' d' (by decide) ⟨.ref t,H,I1,rfl,⟨rfl,t,_,_,hkv,ht,rfl⟩,⟨es,ep,hdat,st'⟩,fun b hb=>(hf b hb).1⟩⟩
 done:=by
  intro X hP hw hK hc i pins s σ H E I hf st hg
  subst hP hw hK
  obtain ⟨hi,ha⟩:=hg
  obtain ⟨es,ep,hdat,raw,hsz,get⟩:=zo I.hok ha
  obtain ⟨es',ep',hd',hit⟩:=st
  rw [hdat] at hd'
  cases hd'
  obtain ⟨f0,f1,f2,f3,f4,f5⟩:=hf it (by simp)
  exact Be (I.ok.hd hc) hit raw (by omega) fun h' eb=>⟨rfl,I.turned (t':=s.toks) (fun b o' hb e'=>eb b o' hb e') f0 f1 f3 f4 f5⟩
 self:=fun _ _ _ _ _ st h=>by
  obtain ⟨_,_,_,hit⟩:=st
  exact wpAny_pyIter_keyiter hit h
def Iw (tl:TE):TI:=fun σ H R=>tl σ H fun x H1=>∃a kvs,x=.ref a∧H1 a=some (.dT kvs)∧∀o,R (Itq a o kvs) (upd H1 a (.frz o (.dT kvs)))
section
variable {X:Cx} {tg:Expr}
theorem J2 {l:Expr} {tl:TE} (hl:PE X l tl):PI X tg l (Iw tl):=by
 intro pins s σ H R I h
 refine thn (hl pins s σ H _ I h) fun v s1 ⟨x,H1,I1,r1,a,kvs,e,ha,q⟩=>?_
 subst e
 cases (show v=Value.ref a from r1)
 obtain ⟨o,es,ep,hdat,raw,I2⟩:=I1.Eh ha
 have hd:=(Ja I1.hok ha).2.1
 refine xv hd raw ?_
 refine ⟨s1.heap.objs.size,[s1.heap.objs.size],_,_,_,rfl,I2.kept (t':=s1.toks) fun b o' e'=>Heap.get?_push_of_some _ e',Cn a _ o kvs,⟨es,ep,hdat,_,Heap.get?_push_size _ rfl,rfl,rfl⟩,fun b hb=>?_,q o⟩
 rw [List.mem_singleton.mp hb]
 exact I2.Bz (Nat.le_refl _) (I2.hok.fresh (Nat.le_refl _))
end
end L2
namespace ei
open PySem PyProof.Rows
class Rk where
 ρ:Value→Int
 P:Value→Prop
 kd:SortKind
variable [Rk]
noncomputable def K (xs:Array Keyed) (i:Nat):Int:=match xs[i]? with
 | some p=>Rk.ρ p.1
 | none=>0
def IntKeys (xs:Array Keyed):Prop:=∀p,p∈xs.toList→Rk.P p.1
def SortedTo (xs:Array Keyed) (k:Nat):Prop:=∀i j,i≤j→j < k→K xs i≤K xs j
class LtR (prog:Program) (w:World) (A:Around) (E:Value→Shared→Prop) (s:Shared):Prop where
 lt:∀(st:SortSt) (x y p q:Value) (Q:Option Bool→SortSt→Prop),Rk.P x→Rk.P y→kindOf st=Rk.kd→Q (some (decide (Rk.ρ x < Rk.ρ y))) st→wpS (model prog w) A E s (lt' (x,p) (y,q)) Q st
theorem K_congr {xs ys:Array Keyed} {i j:Nat} (h:xs[i]?=ys[j]?):K xs i=K ys j:=by unfold K;rw [h]
theorem K_bubble {xs:Array Keyed} {src d:Nat} (hs:src < xs.size) (hd:d≤src) (k:Nat):
  K (bubble xs src d) k=if k=src - d then K xs src else if src - d < k∧k≤src then K xs (k - 1) else K xs k:=by
 have e:=getElem?_bubble hs d hd k
 by_cases h1:k=src - d
 ·rw [if_pos h1] at e ⊢;exact K_congr e
 ·rw [if_neg h1] at e ⊢
  by_cases h2:src - d < k∧k≤src
  ·rw [if_pos h2] at e ⊢;exact K_congr e
  ·rw [if_neg h2] at e ⊢;exact K_congr e
theorem K_mirror {xs:Array Keyed} {i j:Nat} (hj:j≤xs.size) (k:Nat):
  K (mirror xs i j ((j - i) / 2)) k=if i≤k∧k < j then K xs (i+j - 1 - k) else K xs k:=by
 have e:=getElem?_mirror_all (i:=i) hj k
 by_cases h1:i≤k∧k < j
 ·rw [if_pos h1] at e ⊢;exact K_congr e
 ·rw [if_neg h1] at e ⊢;exact K_congr e
theorem K_mirror_equal {xs:Array Keyed} {i j:Nat} (hj:j≤xs.size) (heq:∀k,i≤k→k < j→K xs k=K xs (j - 1)) (k:Nat):
  K (mirror xs i j ((j - i) / 2)) k=K xs k:=by
 rw [K_mirror hj]
 split
 ·rw [heq _ (by omega) (by omega),heq k (by omega) (by omega)]
 ·rfl
structure TB (a₀:Array Keyed) (st:SortSt):Prop where
 perm:(arrOf st).Perm a₀
 kind:kindOf st=Rk.kd
 failed:failedOf st=none
theorem TB.size {a₀:Array Keyed} {st:SortSt} (h:TB a₀ st):(arrOf st).size=a₀.size:=h.perm.size_eq
theorem TB.setArr {a₀:Array Keyed} {st:SortSt} (h:TB a₀ st) {xs:Array Keyed} (hp:xs.Perm (arrOf st)):TB a₀ (setArr st xs):=⟨hp.trans h.perm,h.kind,h.failed⟩
theorem y4 {xs:Array Keyed} (h0:IntKeys xs) {i:Nat} (hi:i < xs.size):∃x q,xs[i]?=some (x,q)∧Rk.P x∧Rk.ρ x=K xs i:=by
 have e:xs[i]?=some xs[i]:=getElem?_pos _ i hi
 refine ⟨xs[i].1,xs[i].2,e,h0 _ (by simp),?_⟩
 unfold K
 rw [e]
theorem IntKeys.perm {xs ys:Array Keyed} (h:IntKeys ys) (p:xs.Perm ys):IntKeys xs:=fun q hq=>h q ((Array.perm_iff_toList_perm.mp p).mem_iff.mp hq)
def Seg (xs:Array Keyed) (lo hi:Nat):Prop:=∀i j,lo≤i→i≤j→j < hi→K xs i≤K xs j
def Dsc (xs:Array Keyed) (lo hi:Nat):Prop:=∀i j,lo≤i→i≤j→j < hi→K xs j≤K xs i
theorem Seg.one (xs:Array Keyed) (lo:Nat):Seg xs lo (lo+1):=fun i j h1 h2 h3=>by
 have:i=j:=by omega
 subst this
 exact Int.le_refl _
theorem Seg.more {xs:Array Keyed} {lo hi:Nat} (h:Seg xs lo hi) (hl:lo < hi) (e:K xs (hi - 1)≤K xs hi):Seg xs lo (hi+1):=fun i j h1 h2 h3=>by
 by_cases hj:j < hi
 ·exact h i j h1 h2 hj
 ·have hj':j=hi:=by omega
  subst hj'
  by_cases hi':i=j
  ·subst hi';exact Int.le_refl _
  ·exact Int.le_trans (h i (j - 1) h1 (by omega) (by omega)) e
theorem Dsc.more {xs:Array Keyed} {lo hi:Nat} (h:Dsc xs lo hi) (hl:lo < hi) (e:K xs hi≤K xs (hi - 1)):Dsc xs lo (hi+1):=fun i j h1 h2 h3=>by
 by_cases hj:j < hi
 ·exact h i j h1 h2 hj
 ·have hj':j=hi:=by omega
  subst hj'
  by_cases hi':i=j
  ·subst hi';exact Int.le_refl _
  ·exact Int.le_trans e (h i (j - 1) h1 (by omega) (by omega))
theorem Seg.congr {xs ys:Array Keyed} {lo hi:Nat} (h:Seg xs lo hi) (e:∀k,lo≤k→k < hi→K ys k=K xs k):Seg ys lo hi:=fun i j h1 h2 h3=>by
 rw [e i h1 (by omega),e j (by omega) h3]
 exact h i j h1 h2 h3
theorem Dsc.congr {xs ys:Array Keyed} {lo hi:Nat} (h:Dsc xs lo hi) (e:∀k,lo≤k→k < hi→K ys k=K xs k):Dsc ys lo hi:=fun i j h1 h2 h3=>by
 rw [e i h1 (by omega),e j (by omega) h3]
 exact h i j h1 h2 h3
theorem Dsc.turn {xs:Array Keyed} {lo hi:Nat} (h:Dsc xs lo hi) (hs:hi≤xs.size):Seg (mirror xs lo hi ((hi - lo) / 2)) lo hi:=fun i j h1 h2 h3=>by
 rw [K_mirror hs,K_mirror hs,if_pos ⟨h1,by omega⟩,if_pos ⟨by omega,h3⟩]
 exact h _ _ (by omega) (by omega) (by omega)
theorem Bx {xs:Array Keyed} {lo hi:Nat} (hs:hi≤xs.size) {k:Nat} (hk:k < lo):K (mirror xs lo hi ((hi - lo) / 2)) k=K xs k:=by
 rw [K_mirror hs,if_neg (by omega)]
structure Kept (lo:Nat) (st st':SortSt):Prop where
 pend:pendingOf st'=pendingOf st
 low:∀k,k < lo→K (arrOf st') k=K (arrOf st) k
theorem Kept.refl (lo:Nat) (st:SortSt):Kept lo st st:=⟨rfl,fun _ _=>rfl⟩
theorem Kept.arr {lo:Nat} {st:SortSt} {xs:Array Keyed} (e:∀k,k < lo→K xs k=K (arrOf st) k):Kept lo st (setArr st xs):=⟨rfl,e⟩
theorem Kept.trans {lo:Nat} {a b c:SortSt} (h:Kept lo a b) (g:Kept lo b c):Kept lo a c:=⟨g.pend.trans h.pend,fun k hk=>(g.low k hk).trans (h.low k hk)⟩
section
variable {prog:Program} {w:World} {A:Around} {E:Value→Shared→Prop} {s:Shared} {a₀:Array Keyed} [LtR prog w A E s]
theorem m9 {st:SortSt} {i j:Nat} {Q:Option Bool→SortSt→Prop} (hB:TB a₀ st) (h0:IntKeys a₀) (hi:i < a₀.size) (hj:j < a₀.size)
  (h:Q (some (decide (K (arrOf st) i < K (arrOf st) j))) st):wpS (model prog w) A E s (ltAt' i j) Q st:=by
 have hx:=IntKeys.perm h0 hB.perm
 obtain ⟨x,p,e1,h1,r1⟩:=y4 hx (i:=i) (by rw [hB.size];exact hi)
 obtain ⟨y,q,e2,h2,r2⟩:=y4 hx (i:=j) (by rw [hB.size];exact hj)
 rw [ltAt'_eq]
 refine wpS_bind (wpS_get ?_)
 show wpS _ _ _ _ (elem' (arrOf st) i >>=fun x=>elem' (arrOf st) j >>=fun y=>lt' x y) Q st
 rw [elem'_eq,elem'_eq,e1,e2]
 refine wpS_bind (wpS_pure (wpS_bind (wpS_pure ?_)))
 exact LtR.lt st x y p q Q h1 h2 hB.kind (by rw [r1,r2];exact h)
theorem Lg {st:SortSt} {lo a nrem:Nat} {Q:AscSt→SortSt→Prop} (h0:IntKeys a₀) (hn:lo+nrem≤a₀.size) (ha:1≤a) (han:a≤nrem) (hB:TB a₀ st) (hs:Seg (arrOf st) lo (lo+a))
  (h:∀n,a≤n→n≤nrem→Seg (arrOf st) lo (lo+n)→(n=nrem∨K (arrOf st) (lo+n) < K (arrOf st) (lo+n - 1))→Q (none,n) st):
  wpS (model prog w) A E s (forIn [a:nrem] ((none,a):AscSt) fun _ r=>do
   let __x ←ltAt' (lo+r.snd) (lo+r.snd - 1)
   match __x with
   | some smaller=>if smaller=true then pure (ForInStep.done (none,r.snd)) else pure (ForInStep.yield (none,r.snd+1))
   | _=>pure (ForInStep.done (some none,r.snd))) Q st:=by
 refine wpS_forRange (I:=fun x c st'=>st'=st∧c=(none,x)∧Seg (arrOf st) lo (lo+x)) ?step ?fin ⟨rfl,rfl,hs⟩
 case fin=>
  rintro c st' ⟨rfl,rfl,hs'⟩
  rw [show max a nrem=nrem by omega] at hs' ⊢
  exact h nrem han (Nat.le_refl _) hs' (.inl rfl)
 case step=>
  rintro x c st' hax hxn ⟨rfl,rfl,hs'⟩
  dsimp only
  refine wpS_bind (m9 hB h0 (by omega) (by omega) ?_)
  by_cases hless:K (arrOf st') (lo+x) < K (arrOf st') (lo+x - 1)
  ·simp only [hless,decide_true,if_true]
   exact wpS_pure (h x hax (by omega) hs' (.inr hless))
  ·simp only [hless,decide_false,Bool.false_eq_true,if_false]
   exact wpS_pure ⟨rfl,rfl,hs'.more (by omega) (Int.not_lt.mp hless)⟩
end
end ei
namespace ei
open PySem PyProof.Rows
variable [Rk]
noncomputable def ascL (lo a nrem:Nat):StateT SortSt Sem AscSt:=
 forIn [a:nrem] ((none,a):AscSt) fun _ r=>do
   let __x ←ltAt' (lo+r.snd) (lo+r.snd - 1)
   match __x with
   | some smaller=>if smaller=true then pure (ForInStep.done (none,r.snd)) else pure (ForInStep.yield (none,r.snd+1))
   | _=>pure (ForInStep.done (some none,r.snd))
noncomputable def zv (lo n nrem:Nat):StateT SortSt Sem (Option Nat):=do
 reverseSlice' lo (lo+n)
 let r ←ascL lo n nrem
 match r.fst with
 | some x=>pure x
 | none=>pure (some r.snd)
noncomputable def dscL (lo n nrem:Nat):StateT SortSt Sem DescSt:=
 forIn [n:nrem] ((none,n,0):DescSt) fun _ r=>do
  let __x ←ltAt' (lo+r.snd.fst) (lo+r.snd.fst - 1)
  match __x with
  | some smaller=>
   if smaller=true then
    if r.snd.snd > 0 then do
     reverseSlice' (lo+r.snd.fst - (r.snd.snd+1)) (lo+r.snd.fst)
     pure (ForInStep.yield (none,r.snd.fst+1,0))
    else pure (ForInStep.yield (none,r.snd.fst+1,0))
   else do
    let __x ←ltAt' (lo+r.snd.fst - 1) (lo+r.snd.fst)
    match __x with
    | some larger=>
     if larger=true then pure (ForInStep.done (none,r.snd.fst,r.snd.snd))
     else pure (ForInStep.yield (none,r.snd.fst+1,r.snd.snd+1))
    | _=>pure (ForInStep.done (some none,r.snd.fst,r.snd.snd))
  | _=>pure (ForInStep.done (some none,r.snd.fst,r.snd.snd))
noncomputable def dscP (lo n nrem:Nat):StateT SortSt Sem (Option Nat):=do
 liftM (rule "list.sort.descending-run")
 let r ←dscL lo (n+1) nrem
 match r.fst with
 | some x=>pure x
 | none=>
  if r.snd.snd > 0 then do
   reverseSlice' (lo+r.snd.fst - (r.snd.snd+1)) (lo+r.snd.fst)
   zv lo r.snd.fst nrem
  else zv lo r.snd.fst nrem
theorem count_eq (lo nrem:Nat):countRun' lo nrem=(do
  let r ←ascL lo 1 nrem
  match r.fst with
  | some x=>pure x
  | none=>
   if (r.snd==nrem)=true then pure (some r.snd)
   else if r.snd > 1 then do
    let __x ←ltAt' lo (lo+r.snd - 1)
    match __x with
    | some rose=>if rose=true then pure (some r.snd) else do
      reverseSlice' lo (lo+r.snd)
      dscP lo r.snd nrem
    | _=>pure none
   else dscP lo r.snd nrem):=by
 rw [countRun'_eq]
 unfold dscP zv dscL ascL
 refine bind_congr (m:=StateT SortSt Sem) fun r=>?_
 obtain ⟨r,n⟩:=r
 cases r with
 | some r=>rfl
 | none=>
  dsimp only
  split
  ·rfl
  ·split
   ·congr 1
    funext x
    cases x with
    | none=>rfl
    | some rose=>
     dsimp only
     split
     ·rfl
     ·congr 1
      funext _r
      congr 1;funext _u;congr 1;congr 1;funext s2;obtain ⟨r2,n2,q2⟩:=s2
      cases r2 with
      | some r2=>rfl
      | none=>
       dsimp only
       split
       ·congr 1;funext _v;congr 1;funext _w;congr 1;funext s3;obtain ⟨r3,n3⟩:=s3;cases r3 <;> rfl
       ·congr 1;funext _w;congr 1;funext s3;obtain ⟨r3,n3⟩:=s3;cases r3 <;> rfl
   ·congr 1;funext _u;congr 1;congr 1;funext s2;obtain ⟨r2,n2,q2⟩:=s2
    cases r2 with
    | some r2=>rfl
    | none=>
     dsimp only
     split
     ·congr 1;funext _v;congr 1;funext _w;congr 1;funext s3;obtain ⟨r3,n3⟩:=s3;cases r3 <;> rfl
     ·congr 1;funext _w;congr 1;funext s3;obtain ⟨r3,n3⟩:=s3;cases r3 <;> rfl
section
variable {prog:Program} {w:World} {A:Around} {E:Value→Shared→Prop} {s:Shared} {a₀:Array Keyed} [LtR prog w A E s]
theorem Es {st:SortSt} {lo n nrem:Nat} {Q:Option Nat→SortSt→Prop} (h0:IntKeys a₀) (hn:lo+nrem≤a₀.size) (h1:1≤n) (hnn:n≤nrem) (hB:TB a₀ st) (hd:Dsc (arrOf st) lo (lo+n))
  (h:∀m st',TB a₀ st'→Kept lo st st'→1≤m→m≤nrem→Seg (arrOf st') lo (lo+m)→Q (some m) st'):wpS (model prog w) A E s (zv lo n nrem) Q st:=by
 unfold zv
 have hsz:lo+n≤(arrOf st).size:=by rw [hB.size];omega
 refine wpS_bind (wpS_reverse ?_)
 have hB':TB a₀ (setArr st (mirror (arrOf st) lo (lo+n) ((lo+n - lo) / 2))):=hB.setArr (mirror_perm _ _ _ _)
 refine wpS_bind (Lg h0 hn h1 hnn hB' (hd.turn hsz) fun m hm1 hm2 hsm _=>wpS_pure (h m _ hB' ⟨rfl,fun k hk=>Bx hsz hk⟩ (by omega) hm2 hsm))
theorem wp_dsc {st:SortSt} {lo n nrem:Nat} {Q:DescSt→SortSt→Prop} (h0:IntKeys a₀) (hn:lo+nrem≤a₀.size) (h1:1≤n) (hnn:n≤nrem) (hB:TB a₀ st) (hd:Dsc (arrOf st) lo (lo+n))
  (h:∀m neq st',TB a₀ st'→Kept lo st st'→n≤m→m≤nrem→Dsc (arrOf st') lo (lo+m)→neq+1≤m→(∀i,lo+m - (neq+1)≤i→i < lo+m→K (arrOf st') i=K (arrOf st') (lo+m - 1))→Q (none,m,neq) st'):
  wpS (model prog w) A E s (dscL lo n nrem) Q st:=by
 unfold dscL
 refine wpS_forRange (I:=fun x c st'=>∃neq,c=(none,x,neq)∧TB a₀ st'∧Kept lo st st'∧Dsc (arrOf st') lo (lo+x)∧neq+1≤x∧
   (∀i,lo+x - (neq+1)≤i→i < lo+x→K (arrOf st') i=K (arrOf st') (lo+x - 1))) ?step ?fin ⟨0,rfl,hB,Kept.refl _ _,hd,by omega,fun i h1 h2=>by congr 1;omega⟩
 case fin=>
  rintro c st' ⟨neq,rfl,hB',hk,hs',hq,he⟩
  rw [show max n nrem=nrem by omega] at hs' hq he ⊢
  exact h nrem neq st' hB' hk hnn (Nat.le_refl _) hs' hq he
 case step=>
  rintro x c st' hax hxn ⟨neq,rfl,hB',hk,hs',hq,he⟩
  dsimp only
  have hsz:lo+x≤(arrOf st').size:=by rw [hB'.size];omega
  refine wpS_bind (m9 hB' h0 (by omega) (by omega) ?_)
  by_cases hless:K (arrOf st') (lo+x) < K (arrOf st') (lo+x - 1)
  ·simp only [hless,decide_true,if_true]
   have d1:Dsc (arrOf st') lo (lo+(x+1)):=hs'.more (by omega) (Int.le_of_lt hless)
   by_cases hneq:neq > 0
   ·rw [if_pos hneq]
    have eq:=K_mirror_equal hsz he
    exact wpS_bind (wpS_reverse (wpS_pure ⟨0,rfl,hB'.setArr (mirror_perm _ _ _ _),hk.trans (Kept.arr fun k _=>eq k),d1.congr fun k _ _=>eq k,by omega,fun i h1 h2=>by congr 1;omega⟩))
   ·rw [if_neg hneq]
    exact wpS_pure ⟨0,rfl,hB',hk,d1,by omega,fun i h1 h2=>by congr 1;omega⟩
  ·simp only [hless,decide_false,Bool.false_eq_true,if_false]
   refine wpS_bind (m9 hB' h0 (by omega) (by omega) ?_)
   by_cases hlarger:K (arrOf st') (lo+x - 1) < K (arrOf st') (lo+x)
   ·simp only [hlarger,decide_true,if_true]
    exact wpS_pure (h x neq st' hB' hk hax (by omega) hs' hq he)
   ·simp only [hlarger,decide_false,Bool.false_eq_true,if_false]
    have heqx:K (arrOf st') (lo+x)=K (arrOf st') (lo+x - 1):=by omega
    refine wpS_pure ⟨neq+1,rfl,hB',hk,hs'.more (by omega) (by omega),by omega,fun i h1 h2=>?_⟩
    rw [show lo+(x+1) - 1=lo+x by omega]
    by_cases hix:i=lo+x
    ·subst hix;rfl
    ·rw [heqx];exact he i (by omega) (by omega)
theorem En {st:SortSt} {lo n nrem:Nat} {Q:Option Nat→SortSt→Prop} (h0:IntKeys a₀) (hn:lo+nrem≤a₀.size) (hnn:n+1≤nrem) (hB:TB a₀ st) (hs:Dsc (arrOf st) lo (lo+(n+1)))
  (h:∀m st',TB a₀ st'→Kept lo st st'→1≤m→m≤nrem→Seg (arrOf st') lo (lo+m)→Q (some m) st'):wpS (model prog w) A E s (dscP lo n nrem) Q st:=by
 unfold dscP
 refine wpS_bind (wpS_lift (wpAny_rule ⟨rfl,?_⟩))
 refine wpS_bind (wp_dsc h0 hn (by omega) hnn hB hs fun m neq st' hB' hk hm1 hm2 hs' hq he=>?_)
 dsimp only
 have hsz:lo+m≤(arrOf st').size:=by rw [hB'.size];omega
 by_cases hneq:neq > 0
 ·rw [if_pos hneq]
  have eq:=K_mirror_equal hsz he
  exact wpS_bind (wpS_reverse (Es h0 hn (by omega) hm2 (hB'.setArr (mirror_perm _ _ _ _)) (hs'.congr fun k _ _=>eq k) fun m' st2 t2 k2=>h m' st2 t2 ((hk.trans (Kept.arr fun k _=>eq k)).trans k2)))
 ·rw [if_neg hneq]
  exact Es h0 hn (by omega) hm2 hB' hs' fun m' st2 t2 k2=>h m' st2 t2 (hk.trans k2)
theorem Lu {st:SortSt} {lo nrem:Nat} {Q:Option Nat→SortSt→Prop} (h0:IntKeys a₀) (hn:lo+nrem≤a₀.size) (h1:1≤nrem) (hB:TB a₀ st)
  (h:∀m st',TB a₀ st'→Kept lo st st'→1≤m→m≤nrem→Seg (arrOf st') lo (lo+m)→Q (some m) st'):wpS (model prog w) A E s (countRun' lo nrem) Q st:=by
 rw [count_eq]
 refine wpS_bind (Lg h0 hn (Nat.le_refl 1) h1 hB (Seg.one _ _) fun n hn1 hn2 hsn hor=>?_)
 dsimp only
 by_cases hnn:n=nrem
 ·rw [if_pos (by simpa using hnn)]
  exact wpS_pure (h n st hB (Kept.refl _ _) hn1 hn2 hsn)
 ·rw [if_neg (by simpa using hnn)]
  have hlt:K (arrOf st) (lo+n) < K (arrOf st) (lo+n - 1):=hor.resolve_left hnn
  by_cases hgt:n > 1
  ·rw [if_pos hgt]
   refine wpS_bind (m9 hB h0 (by omega) (by omega) ?_)
   by_cases hrose:K (arrOf st) lo < K (arrOf st) (lo+n - 1)
   ·simp only [hrose,decide_true,if_true]
    exact wpS_pure (h n st hB (Kept.refl _ _) hn1 hn2 hsn)
   ·simp only [hrose,decide_false,Bool.false_eq_true,if_false]
    have hsz:lo+n≤(arrOf st).size:=by rw [hB.size];omega
    have hall:∀k,lo≤k→k < lo+n→K (arrOf st) k=K (arrOf st) (lo+n - 1):=by
     intro k hk1 hk
     have a1:=hsn lo k (by omega) hk1 hk
     have a2:=hsn k (lo+n - 1) hk1 (by omega) (by omega)
     omega
    have eq:=K_mirror_equal hsz hall
    refine wpS_bind (wpS_reverse (En h0 hn (by omega) (hB.setArr (mirror_perm _ _ _ _)) ?_ fun m' st2 t2 k2=>h m' st2 t2 ((Kept.arr fun k _=>eq k).trans k2)))
    have d0:Dsc (arrOf st) lo (lo+n):=fun i j h1 h2 h3=>by rw [hall i h1 (by omega),hall j (by omega) h3];exact Int.le_refl _
    exact (d0.more (by omega) (Int.le_of_lt hlt)).congr fun k _ _=>eq k
  ·rw [if_neg hgt]
   have hn1':n=1:=by omega
   subst hn1'
   refine En h0 hn (by omega) hB ?_ h
   have d0:Dsc (arrOf st) lo (lo+1):=fun i j h1 h2 h3=>by
    have:i=j:=by omega
    subst this
    exact Int.le_refl _
   exact d0.more (by omega) (Int.le_of_lt hlt)
end
end ei
namespace ei
open PySem PyProof.Rows
variable [Rk]
section
variable {prog:Program} {w:World} {A:Around} {E:Value→Shared→Prop} {s:Shared} {a₀:Array Keyed} [LtR prog w A E s]
theorem G3 {st:SortSt} {lo n ok:Nat} {Q:Bool→SortSt→Prop} (h0:IntKeys a₀) (hn:lo+n≤a₀.size) (hok:ok≤n) (h1:1≤ok) (hB:TB a₀ st) (hs:Seg (arrOf st) lo (lo+ok))
  (h:∀st',TB a₀ st'→Kept lo st st'→Seg (arrOf st') lo (lo+n)→Q true st'):wpS (model prog w) A E s (binarySort' lo n ok) Q st:=by
 rw [binarySort'_eq]
 refine wpS_bind (wpS_mono (wpS_forRange (I:=fun k c st'=>c=(none,())∧TB a₀ st'∧Kept lo st st'∧Seg (arrOf st') lo (lo+min k n))
  (Q:=fun c st'=>c=(none,())∧TB a₀ st'∧Kept lo st st'∧Seg (arrOf st') lo (lo+n)) ?step ?fin ?init) ?post)
 case post=>
  rintro c st' ⟨rfl,hB',hk,hs'⟩
  exact wpS_pure (h st' hB' hk hs')
 case init=>exact ⟨rfl,hB,Kept.refl _ _,by rw [show min (max ok 1) n=ok by omega];exact hs⟩
 case fin=>
  rintro c st' ⟨hc,hB',hk,hs'⟩
  refine ⟨hc,hB',hk,?_⟩
  rwa [show min (max (max ok 1) n) n=n by omega] at hs'
 case step=>
  rintro k c st' hak hkn ⟨rfl,hB',hkp,hs'⟩
  rw [show min k n=k by omega] at hs'
  have hk:lo+k < a₀.size:=by omega
  refine wpS_bind (wpS_mono (wpS_forRange (I:=fun x c st''=>st''=st'∧∃l r,c=(none,l,r)∧l≤r∧r≤k∧r - l≤k - x∧
    (∀i,i < l→K (arrOf st') (lo+i)≤K (arrOf st') (lo+k))∧(∀i,r≤i→i < k→K (arrOf st') (lo+k) < K (arrOf st') (lo+i)))
   (Q:=fun c st''=>st''=st'∧∃l r,c=(none,l,r)∧l≤k∧
    (∀i,i < l→K (arrOf st') (lo+i)≤K (arrOf st') (lo+k))∧(∀i,l≤i→i < k→K (arrOf st') (lo+k) < K (arrOf st') (lo+i))) ?istep ?ifin ?iinit) ?ipost)
  case iinit=>exact ⟨rfl,0,k,rfl,by omega,by omega,by omega,fun i hi=>by omega,fun i h1 h2=>by omega⟩
  case ifin=>
   rintro c st'' ⟨rfl,l,r,rfl,hlr,hrk,hm,hlo,hhi⟩
   have:l=r:=by omega
   subst this
   exact ⟨rfl,l,l,rfl,hrk,hlo,hhi⟩
  case istep=>
   rintro x c st'' _ hxk ⟨rfl,l,r,rfl,hlr,hrk,hm,hlo,hhi⟩
   dsimp only
   by_cases hge:l≥r
   ·rw [if_pos hge]
    have:l=r:=by omega
    subst this
    exact wpS_pure ⟨rfl,l,l,rfl,hrk,hlo,hhi⟩
   ·rw [if_neg hge]
    refine wpS_bind (m9 hB' h0 hk (by omega) ?_)
    by_cases hless:K (arrOf st'') (lo+k) < K (arrOf st'') (lo+(l+r) / 2)
    ·simp only [hless,decide_true,if_true]
     refine wpS_pure ⟨rfl,l,(l+r) / 2,rfl,by omega,by omega,by omega,hlo,fun i h1 h2=>?_⟩
     exact Int.lt_of_lt_of_le hless (hs' _ _ (by omega) (by omega) (by omega))
    ·simp only [hless,decide_false,Bool.false_eq_true,if_false]
     refine wpS_pure ⟨rfl,(l+r) / 2+1,r,rfl,by omega,by omega,by omega,fun i h1=>?_,hhi⟩
     exact Int.le_trans (hs' (lo+i) (lo+(l+r) / 2) (by omega) (by omega) (by omega)) (Int.not_lt.mp hless)
  case ipost=>
   rintro c st'' ⟨rfl,l,r,rfl,hlk,hlo,hhi⟩
   show wpS _ _ _ _ (do moveDown' (lo+k) (lo+l);pure (ForInStep.yield (none,()))) _ _
   rw [moveDown'_eq]
   have hks:lo+k < (arrOf st'').size:=by rw [hB'.size];exact hk
   have ed:lo+k - (lo+l)=k - l:=by omega
   rw [ed]
   have es:lo+k - (k - l)=lo+l:=by omega
   refine wpS_bind (wpS_modify (wpS_pure ⟨rfl,hB'.setArr (bubble_perm _ _ _),hkp.trans (Kept.arr fun j hj=>?_),?_⟩))
   ·rw [K_bubble hks (by omega),es,if_neg (by omega),if_neg (by omega)]
   ·rw [show min (k+1) n=k+1 by omega]
    intro i j hi hij hj
    show K (bubble (arrOf st'') (lo+k) (k - l)) i≤K (bubble (arrOf st'') (lo+k) (k - l)) j
    rw [K_bubble hks (by omega),K_bubble hks (by omega),es]
    have low:∀i,lo≤i→i < lo+l→K (arrOf st'') i≤K (arrOf st'') (lo+k):=fun i h1 h2=>by
     have:=hlo (i - lo) (by omega)
     rwa [show lo+(i - lo)=i by omega] at this
    have high:∀i,lo+l≤i→i < lo+k→K (arrOf st'') (lo+k) < K (arrOf st'') i:=fun i h1 h2=>by
     have:=hhi (i - lo) (by omega) (by omega)
     rwa [show lo+(i - lo)=i by omega] at this
    repeat' split
    all_goals first
     | (exfalso;omega)
     | exact Int.le_refl _
     | exact low _ (by omega) (by omega)
     | exact Int.le_of_lt (high _ (by omega) (by omega))
     | exact hs' _ _ (by omega) (by omega) (by omega)
end
end ei
namespace ei
open PySem PyProof.Rows
variable [Rk]
noncomputable def Ob:Bool→Keyed→Array Keyed→Nat→Nat→Nat→StateT SortSt Sem (Option Nat):=sortPriv% PySem.Builtin.gallop
noncomputable def fq (p:Keyed):Int:=Rk.ρ p.1
noncomputable def bey (left:Bool) (key:Int) (arr:Array Keyed) (i:Nat):Bool:=if left then decide (K arr i < key) else !decide (key < K arr i)
section
variable {prog:Program} {w:World} {A:Around} {E:Value→Shared→Prop} {s:Shared} [LtR prog w A E s]
theorem Ff {st:SortSt} {a b:Int} {x y:Value} {p q:Value} {Q:Option Bool→SortSt→Prop} (h1:Rk.P x) (r1:Rk.ρ x=a) (h2:Rk.P y) (r2:Rk.ρ y=b) (hk:kindOf st=Rk.kd) (h:Q (some (decide (a < b))) st):wpS (model prog w) A E s (lt' (x,p) (y,q)) Q st:=
 LtR.lt st x y p q Q h1 h2 hk (by rw [r1,r2];exact h)
theorem Ee {st:SortSt} {arr:Array Keyed} {i:Nat} {x:Keyed} {Q:Keyed→SortSt→Prop} (e:arr[i]?=some x) (h:Q x st):wpS (model prog w) A E s (elem' arr i) Q st:=by
 rw [elem'_eq,e]
 exact wpS_pure h
theorem dr {st:SortSt} {left:Bool} {c:Int} {x₀ kp:Value} {arr:Array Keyed} {base n hint:Nat} {Q:Option Nat→SortSt→Prop} (hx₀:Rk.P x₀) (hc₀:Rk.ρ x₀=c) (hk:kindOf st=Rk.kd) (hI:IntKeys arr) (hsz:base+n≤arr.size) (hh:hint < n)
  (hs:Seg arr base (base+n))
  (h:∀k,k≤n→(∀i,i < k→bey left c arr (base+i)=true)→(∀i,k≤i→i < n→bey left c arr (base+i)=false)→Q (some k) st):
  wpS (model prog w) A E s (Ob left (x₀,kp) arr base n hint) Q st:=by
 have mono:∀i j,i≤j→j < n→bey left c arr (base+j)=true→bey left c arr (base+i)=true:=fun i j hij hj hb=>by
  have hK:=hs (base+i) (base+j) (by omega) (by omega) (by omega)
  unfold bey at hb ⊢
  cases left with
  | true=>
   have:K arr (base+j) < c:=of_decide_eq_true hb
   exact decide_eq_true (by omega)
  | false=>
   have hb:(!decide (c < K arr (base+j)))=true:=hb
   show (!decide (c < K arr (base+i)))=true
   rw [Bool.not_eq_true',decide_eq_false_iff_not] at hb ⊢
   omega
 have monoF:∀i j,i≤j→j < n→bey left c arr (base+i)=false→bey left c arr (base+j)=false:=fun i j hij hj hb=>by
  cases e:bey left c arr (base+j) with
  | false=>rfl
  | true=>rw [mono i j hij hj e] at hb;cases hb
 have ask:∀{β:Type} (i:Nat) {Q':β→SortSt→Prop} {f:Option Bool→StateT SortSt Sem β},i < n→wpS (model prog w) A E s (f (some (bey left c arr (base+i)))) Q' st→wpS (model prog w) A E s ((do
   let x ←elem' arr (base+i)
   if left=true then lt' x (x₀,kp) else do
    let __x ←lt' (x₀,kp) x
    pure (__x.map (!·)):StateT SortSt Sem (Option Bool)) >>=f) Q' st:=fun {β} i {Q' f} hi hf=>by
  obtain ⟨y,q,e,hy,ry⟩:=y4 hI (i:=base+i) (by omega)
  refine wpS_bind (wpS_bind (Ee e ?_))
  unfold bey at hf
  cases left with
  | true=>exact Ff hy ry hx₀ hc₀ hk hf
  | false=>exact wpS_bind (Ff hx₀ hc₀ hy ry hk (wpS_pure hf))
 refine ask hint hh ?_
 dsimp only
 cases e0:bey left c arr (base+hint) with
 | true=>
  rw [if_pos rfl]
  refine wpS_bind (wpS_mono (wpS_forRange (I:=fun x c' st'=>st'=st∧∃g1 g2,c'=(none,g1,g2)∧x+1≤g2∧g1 < g2∧hint+g1 < n∧bey left c arr (base+(hint+g1))=true)
   (Q:=fun c' st'=>st'=st∧∃g1 g2,c'=(none,g1,g2)∧g1 < g2∧hint+g1 < n∧bey left c arr (base+(hint+g1))=true∧(g2≥n - hint∨(hint+g2 < n∧bey left c arr (base+(hint+g2))=false))) ?_ ?_ ⟨rfl,0,1,rfl,by omega,by omega,by omega,e0⟩) ?_)
  ·rintro x c' st' _ hx ⟨rfl,g1,g2,rfl,h1,h2,h3,h4⟩
   dsimp only
   by_cases hge:g2≥n - hint
   ·rw [if_pos hge]
    exact wpS_pure ⟨rfl,g1,g2,rfl,h2,h3,h4,.inl hge⟩
   ·rw [if_neg hge]
    refine ask (hint+g2) (by omega) ?_
    dsimp only
    cases e:bey left c arr (base+(hint+g2)) with
    | true=>
     rw [if_neg (by decide)]
     exact wpS_pure ⟨rfl,_,_,rfl,by omega,by omega,by omega,e⟩
    | false=>
     rw [if_pos (by decide)]
     exact wpS_pure ⟨rfl,g1,g2,rfl,h2,h3,h4,.inr ⟨by omega,e⟩⟩
  ·rintro c' st' ⟨rfl,g1,g2,rfl,h1,h2,h3,h4⟩
   exact ⟨rfl,g1,g2,rfl,h2,h3,h4,.inl (by omega)⟩
  ·rintro c' st' ⟨rfl,g1,g2,rfl,h2,h3,h4,h5⟩
   dsimp only
   have hLo:∀i,i < hint+g1+1→bey left c arr (base+i)=true:=fun i hi=>mono i (hint+g1) (by omega) h3 h4
   have hHi:∀i,hint+min g2 (n - hint)≤i→i < n→bey left c arr (base+i)=false:=fun i hi hn=>by
    rcases h5 with h5 | ⟨h5,h6⟩
    ·exfalso
     omega
    ·exact monoF (hint+g2) i (by omega) hn h6
   have hLH:hint+g1+1≤hint+min g2 (n - hint):=by omega
   have hHn:hint+min g2 (n - hint)≤n:=by omega
   refine wpS_bind (wpS_mono (wpS_forRange (I:=fun x c2 st2=>st2=st'∧∃l r,c2=(none,l,r)∧l≤r∧r≤n∧r - l≤n - x∧(∀i,i < l→bey left c arr (base+i)=true)∧(∀i,r≤i→i < n→bey left c arr (base+i)=false))
    (Q:=fun c2 st2=>st2=st'∧∃r,c2=(none,r,r)∧r≤n∧(∀i,i < r→bey left c arr (base+i)=true)∧(∀i,r≤i→i < n→bey left c arr (base+i)=false)) ?_ ?_ ⟨rfl,_,_,rfl,hLH,hHn,by omega,hLo,hHi⟩) ?_)
   ·rintro x c' st' _ hx ⟨rfl,l,r,rfl,hlr,hrn,hm,h1,h2⟩
    dsimp only
    by_cases hge:l≥r
    ·rw [if_pos hge]
     have:l=r:=by omega
     subst this
     exact wpS_pure ⟨rfl,l,rfl,hrn,h1,h2⟩
    ·rw [if_neg hge]
     refine ask (l+(r - l) / 2) (by omega) ?_
     dsimp only
     cases e:bey left c arr (base+(l+(r - l) / 2)) with
     | true=>
      rw [if_pos rfl]
      exact wpS_pure ⟨rfl,_,_,rfl,by omega,hrn,by omega,fun i hi=>mono i _ (by omega) (by omega) e,h2⟩
     | false=>
      rw [if_neg Bool.false_ne_true]
      exact wpS_pure ⟨rfl,_,_,rfl,by omega,by omega,by omega,h1,fun i hi hn=>monoF _ i hi hn e⟩
   ·rintro c' st' ⟨rfl,l,r,rfl,hlr,hrn,hm,h1,h2⟩
    have:l=r:=by omega
    subst this
    exact ⟨rfl,l,rfl,hrn,h1,h2⟩
   ·rintro c' st' ⟨rfl,r,rfl,hrn,h1,h2⟩
    exact wpS_pure (h r hrn h1 h2)
 | false=>
  rw [if_neg Bool.false_ne_true]
  refine wpS_bind (wpS_mono (wpS_forRange (I:=fun x c' st'=>st'=st∧∃g1 g2,c'=(none,g1,g2)∧x+1≤g2∧g1 < g2∧g1≤hint∧bey left c arr (base+(hint - g1))=false)
   (Q:=fun c' st'=>st'=st∧∃g1 g2,c'=(none,g1,g2)∧g1 < g2∧g1≤hint∧bey left c arr (base+(hint - g1))=false∧(g2≥hint+1∨(g2≤hint∧bey left c arr (base+(hint - g2))=true))) ?_ ?_ ⟨rfl,0,1,rfl,by omega,by omega,by omega,e0⟩) ?_)
  ·rintro x c' st' _ hx ⟨rfl,g1,g2,rfl,h1,h2,h3,h4⟩
   dsimp only
   by_cases hge:g2≥hint+1
   ·rw [if_pos hge]
    exact wpS_pure ⟨rfl,g1,g2,rfl,h2,h3,h4,.inl hge⟩
   ·rw [if_neg hge]
    refine ask (hint - g2) (by omega) ?_
    dsimp only
    cases e:bey left c arr (base+(hint - g2)) with
    | true=>
     rw [if_pos rfl]
     exact wpS_pure ⟨rfl,g1,g2,rfl,h2,h3,h4,.inr ⟨by omega,e⟩⟩
    | false=>
     rw [if_neg Bool.false_ne_true]
     exact wpS_pure ⟨rfl,_,_,rfl,by omega,by omega,by omega,e⟩
  ·rintro c' st' ⟨rfl,g1,g2,rfl,h1,h2,h3,h4⟩
   exact ⟨rfl,g1,g2,rfl,h2,h3,h4,.inl (by omega)⟩
  ·rintro c' st' ⟨rfl,g1,g2,rfl,h2,h3,h4,h5⟩
   dsimp only
   have hLo:∀i,i < hint+1 - min g2 (hint+1)→bey left c arr (base+i)=true:=fun i hi=>by
    rcases h5 with h5 | ⟨h5,h6⟩
    ·exfalso
     omega
    ·exact mono i (hint - g2) (by omega) (by omega) h6
   have hHi:∀i,hint - g1≤i→i < n→bey left c arr (base+i)=false:=fun i hi hn=>monoF (hint - g1) i hi hn h4
   have hLH:hint+1 - min g2 (hint+1)≤hint - g1:=by omega
   have hHn:hint - g1≤n:=by omega
   refine wpS_bind (wpS_mono (wpS_forRange (I:=fun x c2 st2=>st2=st'∧∃l r,c2=(none,l,r)∧l≤r∧r≤n∧r - l≤n - x∧(∀i,i < l→bey left c arr (base+i)=true)∧(∀i,r≤i→i < n→bey left c arr (base+i)=false))
    (Q:=fun c2 st2=>st2=st'∧∃r,c2=(none,r,r)∧r≤n∧(∀i,i < r→bey left c arr (base+i)=true)∧(∀i,r≤i→i < n→bey left c arr (base+i)=false)) ?_ ?_ ⟨rfl,_,_,rfl,hLH,hHn,by omega,hLo,hHi⟩) ?_)
   ·rintro x c' st' _ hx ⟨rfl,l,r,rfl,hlr,hrn,hm,h1,h2⟩
    dsimp only
    by_cases hge:l≥r
    ·rw [if_pos hge]
     have:l=r:=by omega
     subst this
     exact wpS_pure ⟨rfl,l,rfl,hrn,h1,h2⟩
    ·rw [if_neg hge]
     refine ask (l+(r - l) / 2) (by omega) ?_
     dsimp only
     cases e:bey left c arr (base+(l+(r - l) / 2)) with
     | true=>
      rw [if_pos rfl]
      exact wpS_pure ⟨rfl,_,_,rfl,by omega,hrn,by omega,fun i hi=>mono i _ (by omega) (by omega) e,h2⟩
     | false=>
      rw [if_neg Bool.false_ne_true]
      exact wpS_pure ⟨rfl,_,_,rfl,by omega,by omega,by omega,h1,fun i hi hn=>monoF _ i hi hn e⟩
   ·rintro c' st' ⟨rfl,l,r,rfl,hlr,hrn,hm,h1,h2⟩
    have:l=r:=by omega
    subst this
    exact ⟨rfl,l,rfl,hrn,h1,h2⟩
   ·rintro c' st' ⟨rfl,r,rfl,hrn,h1,h2⟩
    exact wpS_pure (h r hrn h1 h2)
end
end ei
namespace ei
open PySem PyProof.Rows
variable [Rk]
def Srt (l:List Keyed):Prop:=l.Pairwise fun x y=>fq x≤fq y
structure Out (o ra rb all:List Keyed):Prop where
 perm:(o++ra++rb).Perm all
 srt:Srt o
 sa:Srt ra
 sb:Srt rb
 low:∀x∈o,∀y,y∈ra∨y∈rb→fq x≤fq y
theorem Srt.split {l:List Keyed} (h:Srt l) (k:Nat):Srt (l.take k)∧Srt (l.drop k)∧∀x∈l.take k,∀y∈l.drop k,fq x≤fq y:=by
 have e:l.take k++l.drop k=l:=List.take_append_drop k l
 unfold Srt at h ⊢
 rw [←e,List.pairwise_append] at h
 exact ⟨h.1,h.2.1,h.2.2⟩
theorem Out.Jh {o ra rb all:List Keyed} (h:Out o ra rb all) (k:Nat) (hk:∀x∈ra.take k,∀y∈rb,fq x≤fq y):Out (o++ra.take k) (ra.drop k) rb all:=by
 obtain ⟨s1,s2,s3⟩:=h.sa.split k
 refine ⟨?_,?_,s2,h.sb,fun x hx y hy=>?_⟩
 ·rw [List.append_assoc o,List.take_append_drop]
  exact h.perm
 ·unfold Srt
  rw [List.pairwise_append]
  exact ⟨h.srt,s1,fun x hx y hy=>h.low x hx y (.inl (List.mem_of_mem_take hy))⟩
 ·rcases List.mem_append.mp hx with k1 | k1
  ·exact h.low x k1 y (hy.imp List.mem_of_mem_drop id)
  ·rcases hy with hy | hy
   ·exact s3 x k1 y hy
   ·exact hk x k1 y hy
theorem Out.Kc {o ra rb all:List Keyed} (h:Out o ra rb all) (k:Nat) (hk:∀x∈rb.take k,∀y∈ra,fq x≤fq y):Out (o++rb.take k) ra (rb.drop k) all:=by
 obtain ⟨s1,s2,s3⟩:=h.sb.split k
 refine ⟨?_,?_,h.sa,s2,fun x hx y hy=>?_⟩
 ·refine List.Perm.trans ?_ h.perm
  conv=>rhs;rw [←List.take_append_drop k rb]
  rw [List.append_assoc,List.append_assoc,List.append_assoc]
  refine List.Perm.append_left o ?_
  rw [←List.append_assoc,←List.append_assoc]
  exact List.Perm.append_right _ List.perm_append_comm
 ·unfold Srt
  rw [List.pairwise_append]
  exact ⟨h.srt,s1,fun x hx y hy=>h.low x hx y (.inr (List.mem_of_mem_take hy))⟩
 ·rcases List.mem_append.mp hx with k1 | k1
  ·exact h.low x k1 y (hy.imp id List.mem_of_mem_drop)
  ·rcases hy with hy | hy
   ·exact hk x k1 y hy
   ·exact s3 x k1 y hy
theorem Out.done {o ra rb all:List Keyed} (h:Out o ra rb all) (he:ra=[]∨rb=[]):(o++ra++rb).Perm all∧Srt (o++ra++rb):=by
 refine ⟨h.perm,?_⟩
 unfold Srt
 rcases he with rfl | rfl
 ·rw [List.append_nil,List.pairwise_append]
  exact ⟨h.srt,h.sb,fun x hx y hy=>h.low x hx y (.inr hy)⟩
 ·rw [List.append_nil,List.pairwise_append]
  exact ⟨h.srt,h.sa,fun x hx y hy=>h.low x hx y (.inl hy)⟩
theorem Out.last {o ra rb all:List Keyed} (h:Out o ra rb all) (he:∀y∈rb,∀x∈ra,fq y≤fq x):(o++rb++ra).Perm all∧Srt (o++rb++ra):=by
 refine ⟨?_,?_⟩
 ·refine List.Perm.trans ?_ h.perm
  rw [List.append_assoc,List.append_assoc]
  exact List.Perm.append_left o List.perm_append_comm
 ·unfold Srt
  rw [List.pairwise_append,List.pairwise_append]
  refine ⟨⟨h.srt,h.sb,fun x hx y hy=>h.low x hx y (.inr hy)⟩,h.sa,fun x hx y hy=>?_⟩
  rcases List.mem_append.mp hx with k | k
  ·exact h.low x k y (.inl hy)
  ·exact he x k y hy
structure Lk (st st':SortSt):Prop where
 kind:kindOf st'=kindOf st
 arr:arrOf st'=arrOf st
 pend:pendingOf st'=pendingOf st
 failed:failedOf st'=failedOf st
theorem Lk.refl (st:SortSt):Lk st st:=⟨rfl,rfl,rfl,rfl⟩
theorem Lk.trans {a b c:SortSt} (h:Lk a b) (g:Lk b c):Lk a c:=⟨g.kind.trans h.kind,g.arr.trans h.arr,g.pend.trans h.pend,g.failed.trans h.failed⟩
noncomputable def setG':Nat→StateT SortSt Sem Unit:=sortPriv% PySem.Builtin.setMinGallop
theorem Lh (g:Nat):setG' g=modify fun s=>SortSt.mk' (kindOf s) (arrOf s) (pendingOf s) g (failedOf s):=rfl
noncomputable def Iq:Array Keyed→Array Keyed→StateT SortSt Sem (Array Keyed):=sortPriv% PySem.Builtin.mergeLo
end ei
namespace ei
open PySem PyProof.Rows
variable [Rk]
theorem drop_cons {a:Array Keyed} {i:Nat} {x:Keyed} (e:a[i]?=some x):a.toList.drop i=x::a.toList.drop (i+1):=by
 have e':a.toList[i]?=some x:=by rw [Array.getElem?_toList];exact e
 obtain ⟨h,rfl⟩:=List.getElem?_eq_some_iff.mp e'
 exact List.drop_eq_getElem_cons h
theorem y8 {a:Array Keyed} {i:Nat} {x:Keyed} (e:a[i]?=some x):K a i=fq x:=by
 unfold K
 rw [e]
 rfl
theorem oj {a:Array Keyed} {i:Nat} {x:Keyed} (h:x∈a.toList.drop i):∃j,i≤j∧j < a.size∧fq x=K a j:=by
 obtain ⟨k,hk,e⟩:=List.getElem_of_mem h
 rw [List.length_drop] at hk
 have hl:a.toList.length=a.size:=Array.length_toList
 refine ⟨i+k,by omega,by omega,?_⟩
 refine (y8 ?_).symm
 rw [←Array.getElem?_toList,←e,List.getElem_drop]
 exact List.getElem?_eq_getElem (by omega)
theorem nh {a:Array Keyed} {i:Nat} {x:Keyed} (h:x∈a.toList.take i):∃j,j < i∧j < a.size∧fq x=K a j:=by
 obtain ⟨k,hk,e⟩:=List.getElem_of_mem h
 rw [List.length_take] at hk
 have hl:a.toList.length=a.size:=Array.length_toList
 refine ⟨k,by omega,by omega,?_⟩
 refine (y8 ?_).symm
 rw [←Array.getElem?_toList,←e,List.getElem_take]
 exact List.getElem?_eq_getElem (by omega)
theorem mem_mid {a:Array Keyed} {i k:Nat} {x:Keyed} (h:x∈(a.toList.drop i).take k):∃j,i≤j∧j < i+k∧j < a.size∧fq x=K a j:=by
 obtain ⟨m,hm,e⟩:=List.getElem_of_mem h
 rw [List.length_take,List.length_drop] at hm
 have hl:a.toList.length=a.size:=Array.length_toList
 refine ⟨i+m,by omega,by omega,by omega,?_⟩
 refine (y8 ?_).symm
 rw [←Array.getElem?_toList,←e,List.getElem_take,List.getElem_drop]
 exact List.getElem?_eq_getElem (by omega)
theorem yg {a:Array Keyed} (h:Seg a 0 a.size):Srt a.toList:=by
 unfold Srt
 rw [List.pairwise_iff_getElem]
 intro i j hi hj hij
 have hl:a.toList.length=a.size:=Array.length_toList
 have e1:a[i]?=some a.toList[i]:=by rw [←Array.getElem?_toList];exact List.getElem?_eq_getElem hi
 have e2:a[j]?=some a.toList[j]:=by rw [←Array.getElem?_toList];exact List.getElem?_eq_getElem hj
 rw [←y8 e1,←y8 e2]
 exact h i j (by omega) (by omega) (by omega)
theorem cn (a:Array Keyed) (i j:Nat):(a.extract i j).toList=(a.toList.drop i).take (j - i):=by
 rw [Array.toList_extract,List.extract_eq_take_drop]
def Inv (a b out:Array Keyed) (ia ib:Nat):Prop:=Out out.toList (a.toList.drop ia) (b.toList.drop ib) (a.toList++b.toList)
def Good (a b r:Array Keyed):Prop:=r.toList.Perm (a.toList++b.toList)∧Srt r.toList
section
variable {a b out:Array Keyed} {ia ib:Nat}
theorem Inv.start (ha:Seg a 0 a.size) (hb:Seg b 0 b.size):Inv a b #[] 0 0:=⟨List.Perm.refl _,List.Pairwise.nil,yg ha,yg hb,fun x hx=>nomatch hx⟩
theorem Inv.as (h:Inv a b out ia ib) (hb:Seg b 0 b.size) (k:Nat) (hk:∀j,ia≤j→j < ia+k→K a j≤K b ib):Inv a b (out++a.extract ia (ia+k)) (ia+k) ib:=by
 have z:=Out.Jh h k fun x hx y hy=>by
  obtain ⟨j,h1,h2,h3,e⟩:=mem_mid hx
  obtain ⟨m,g1,g2,e2⟩:=oj hy
  rw [e,e2]
  exact Int.le_trans (hk j h1 h2) (hb ib m (by omega) g1 g2)
 unfold Inv
 rw [Array.toList_append,cn,show ia+k - ia=k by omega,←List.drop_drop]
 exact z
theorem Inv.bs (h:Inv a b out ia ib) (ha:Seg a 0 a.size) (k:Nat) (hk:∀j,ib≤j→j < ib+k→K b j≤K a ia):Inv a b (out++b.extract ib (ib+k)) ia (ib+k):=by
 have z:=Out.Kc h k fun x hx y hy=>by
  obtain ⟨j,h1,h2,h3,e⟩:=mem_mid hx
  obtain ⟨m,g1,g2,e2⟩:=oj hy
  rw [e,e2]
  exact Int.le_trans (hk j h1 h2) (ha ia m (by omega) g1 g2)
 unfold Inv
 rw [Array.toList_append,cn,show ib+k - ib=k by omega,←List.drop_drop]
 exact z
theorem Eu {a:Array Keyed} {i:Nat} {x:Keyed} (e:a[i]?=some x):out.push x=out++a.extract i (i+1):=by
 apply Array.toList_inj.mp
 rw [Array.toList_push,Array.toList_append,cn,drop_cons e,show i+1 - i=1 by omega]
 rfl
theorem Inv.a1 (h:Inv a b out ia ib) (hb:Seg b 0 b.size) {x:Keyed} (e:a[ia]?=some x) (hk:K a ia≤K b ib):Inv a b (out.push x) (ia+1) ib:=by
 rw [Eu e]
 exact h.as hb 1 fun j h1 h2=>by
  have:j=ia:=by omega
  subst this
  exact hk
theorem Inv.b1 (h:Inv a b out ia ib) (ha:Seg a 0 a.size) {x:Keyed} (e:b[ib]?=some x) (hk:K b ib≤K a ia):Inv a b (out.push x) ia (ib+1):=by
 rw [Eu e]
 exact h.bs ha 1 fun j h1 h2=>by
  have:j=ib:=by omega
  subst this
  exact hk
theorem rg (a:Array Keyed) (i:Nat):(a.extract i a.size).toList=a.toList.drop i:=by
 rw [cn]
 exact List.take_of_length_le (by rw [List.length_drop,Array.length_toList];omega)
theorem Inv.fin (h:Inv a b out ia ib) (e:ia=a.size∨ib=b.size):Good a b (out++a.extract ia a.size++b.extract ib b.size):=by
 unfold Good
 rw [Array.toList_append,Array.toList_append,rg,rg]
 refine Out.done h (e.imp ?_ ?_)
 ·intro e;exact List.drop_eq_nil_of_le (by rw [Array.length_toList];omega)
 ·intro e;exact List.drop_eq_nil_of_le (by rw [Array.length_toList];omega)
theorem Inv.last (h:Inv a b out ia ib) (e:ia+1=a.size) (hl:∀j,j < b.size→K b j≤K a (a.size - 1)):Good a b (out++b.extract ib b.size++a.extract ia a.size):=by
 unfold Good
 rw [Array.toList_append,Array.toList_append,rg,rg]
 refine Out.last h fun y hy x hx=>?_
 obtain ⟨j,h1,h2,e1⟩:=oj hx
 obtain ⟨m,g1,g2,e2⟩:=oj hy
 rw [e1,e2,show j=a.size - 1 by omega]
 exact hl m g2
end
section
variable {prog:Program} {w:World} {A:Around} {E:Value→Shared→Prop} {s:Shared} [LtR prog w A E s]
theorem bg {α:Type} {c:Prop} [Decidable c] {x y:StateT SortSt Sem α} {Q:α→SortSt→Prop} {st:SortSt} (h1:c→wpS (model prog w) A E s x Q st) (h2:¬c→wpS (model prog w) A E s y Q st):wpS (model prog w) A E s (if c then x else y) Q st:=by
 by_cases h:c
 ·rw [if_pos h];exact h1 h
 ·rw [if_neg h];exact h2 h
theorem rq {st:SortSt} {g:Nat} {Q:Unit→SortSt→Prop} (h:∀st',Lk st st'→Q () st'):wpS (model prog w) A E s (setG' g) Q st:=by
 rw [Lh]
 exact wpS_modify (h _ ⟨rfl,rfl,rfl,rfl⟩)
theorem aw {st:SortSt} {arr:Array Keyed} {i:Nat} {Q:Keyed→SortSt→Prop} (hI:IntKeys arr) (hi:i < arr.size) (h:∀x q,arr[i]?=some (x,q)→Rk.P x→Rk.ρ x=K arr i→Q (x,q) st):wpS (model prog w) A E s (elem' arr i) Q st:=by
 obtain ⟨x,q,e,h1,h2⟩:=y4 hI hi
 exact Ee e (h x q e h1 h2)
theorem Seg.from {a:Array Keyed} {i n:Nat} (h:Seg a 0 a.size) (e:i+n=a.size):Seg a i (i+n):=fun x y h1 h2 h3=>h x y (by omega) h2 (by omega)
theorem Fs {c:Int} {arr:Array Keyed} {i:Nat}:bey false c arr i=true↔K arr i≤c:=by
 unfold bey
 rw [if_neg Bool.false_ne_true,Bool.not_eq_true',decide_eq_false_iff_not,Int.not_lt]
theorem uw {c:Int} {arr:Array Keyed} {i:Nat}:bey true c arr i=true↔K arr i < c:=by
 unfold bey
 rw [if_pos rfl,decide_eq_true_iff]
theorem x9 {c:Int} {arr:Array Keyed} {i:Nat}:bey false c arr i=false↔c < K arr i:=by
 unfold bey
 rw [if_neg Bool.false_ne_true,Bool.not_eq_false',decide_eq_true_iff]
theorem mv {c:Int} {arr:Array Keyed} {i:Nat}:bey true c arr i=false↔c≤K arr i:=by
 unfold bey
 rw [if_pos rfl,decide_eq_false_iff_not,Int.not_lt]
def Mid (a b:Array Keyed) (st:SortSt) (n:Nat) (r:Option (Array Keyed)) (o:Array Keyed) (i j:Nat) (st':SortSt):Prop:=
 Lk st st'∧((∃x,r=some x∧Good a b x)∨(r=none∧Inv a b o i j∧i+1 < a.size∧j < b.size∧n≤i+j))
theorem Cd {st:SortSt} {a b:Array Keyed} {Q:Array Keyed→SortSt→Prop} (hk:kindOf st=Rk.kd) (IA:IntKeys a) (IB:IntKeys b) (na:1≤a.size) (nb:1≤b.size) (sa:Seg a 0 a.size) (sb:Seg b 0 b.size)
  (hf:K b 0≤K a 0) (hl:∀j,j < b.size→K b j≤K a (a.size - 1))
  (h:∀r st',Lk st st'→Good a b r→Q r st'):wpS (model prog w) A E s (Iq a b) Q st:=by
 refine wpS_bind (wpS_lift (wpAny_rule ⟨rfl,?_⟩))
 dsimp only
 refine wpS_bind (aw IB (by omega) fun t0 p0 e0 mP0 mR0=>?_)
 have hI:Inv a b #[(t0,p0)] 0 1:=(Inv.start sa sb).b1 sa e0 hf
 by_cases z1:1=b.size
 ·rw [if_pos (by simpa using z1)]
  exact wpS_pure (h _ _ (Lk.refl _) (hI.fin (.inr z1)))
 rw [if_neg (by simpa using z1)]
 by_cases z2:0+1=a.size
 ·rw [if_pos (by simpa using z2)]
  exact wpS_pure (h _ _ (Lk.refl _) (hI.last z2 hl))
 rw [if_neg (by simpa using z2)]
 refine wpS_bind (wpS_get ?_)
 refine wpS_bind (wpS_mono (wpS_forRange (I:=fun x c st'=>∃o i j g,c=(none,o,i,j,g)∧Lk st st'∧Inv a b o i j∧i+1 < a.size∧j < b.size∧x≤i+j)
  (Q:=fun c st'=>Lk st st'∧∃x,c.1=some x∧Good a b x) ?step ?fin ⟨_,_,_,_,rfl,Lk.refl _,hI,by omega,by omega,by omega⟩) ?post)
 case post=>
  rintro c st' ⟨l,x,e,g⟩
  rw [e]
  exact wpS_pure (h _ _ l g)
 case fin=>
  rintro c st' ⟨o,i,j,g,rfl,l,_,h1,h2,h3⟩
  exfalso
  omega
 case step=>
  rintro x c st1 _ hx ⟨out,ia,ib,g,rfl,l1,hI,ha,hb,hn⟩
  dsimp only
  refine wpS_bind (wpS_mono (wpS_forRange (I:=fun y c st'=>∃o i j ac bc,c=(none,o,i,j,ac,bc)∧Lk st st'∧Inv a b o i j∧i+1 < a.size∧j < b.size∧ia+ib+y≤i+j)
   (Q:=fun c st'=>∃r o i j ac bc,c=(r,o,i,j,ac,bc)∧Mid a b st (ia+ib+1) r o i j st') ?step1 ?fin1 ⟨_,_,_,_,_,rfl,l1,hI,ha,hb,by omega⟩) ?post1)
  case fin1=>
   rintro c st' ⟨o,i,j,ac,bc,rfl,l,_,h1,h2,h3⟩
   exfalso
   omega
  case step1=>
   rintro y c st2 _ hy ⟨out,ia2,ib2,ac,bc,rfl,l2,hI,ha2,hb2,hn2⟩
   dsimp only
   refine wpS_bind (aw IB hb2 fun t1 p1 e1 mP1 mR1=>?_)
   refine wpS_bind (aw IA (by omega) fun t2 p2 e2 mP2 mR2=>?_)
   refine wpS_bind (Ff mP1 mR1 mP2 mR2 (l2.kind.trans hk) ?_)
   dsimp only
   by_cases hw:K b ib2 < K a ia2
   ·rw [if_pos (by simpa using hw)]
    refine wpS_bind (aw IB hb2 fun t3 p3 e3 mP3 mR3=>?_)
    have hI2:=hI.b1 sa e3 (Int.le_of_lt hw)
    by_cases z3:ib2+1=b.size
    ·rw [if_pos (by simpa using z3)]
     exact wpS_pure ⟨_,_,_,_,_,_,rfl,l2,.inl ⟨_,rfl,hI2.fin (.inr z3)⟩⟩
    ·rw [if_neg (by simpa using z3)]
     split
     ·exact wpS_pure ⟨_,_,_,_,_,_,rfl,l2,.inr ⟨rfl,hI2,by omega,by omega,by omega⟩⟩
     ·exact wpS_pure ⟨_,_,_,_,_,rfl,l2,hI2,by omega,by omega,by omega⟩
   ·rw [if_neg (by simpa using hw)]
    refine wpS_bind (aw IA (by omega) fun t3 p3 e3 mP3 mR3=>?_)
    have hI2:=hI.a1 sb e3 (Int.not_lt.mp hw)
    by_cases z3:ia2+1+1=a.size
    ·rw [if_pos (by simpa using z3)]
     exact wpS_pure ⟨_,_,_,_,_,_,rfl,l2,.inl ⟨_,rfl,hI2.last z3 hl⟩⟩
    ·rw [if_neg (by simpa using z3)]
     split
     ·exact wpS_pure ⟨_,_,_,_,_,_,rfl,l2,.inr ⟨rfl,hI2,by omega,by omega,by omega⟩⟩
     ·exact wpS_pure ⟨_,_,_,_,_,rfl,l2,hI2,by omega,by omega,by omega⟩
  case post1=>
   rintro c st2 ⟨r,out2,ia2,ib2,ac,bc,rfl,l2,⟨x2,rfl,hg⟩ | ⟨rfl,hI2,ha2,hb2,hn2⟩⟩
   ·exact wpS_pure ⟨l2,x2,rfl,hg⟩
   dsimp only
   refine wpS_bind (wpS_lift (wpAny_rule ⟨rfl,?_⟩))
   refine wpS_bind (wpS_mono (wpS_forRange (I:=fun y c st'=>∃o i j g ac bc,c=(none,o,i,j,g,ac,bc)∧Lk st st'∧Inv a b o i j∧i+1 < a.size∧j < b.size∧ia2+ib2+y≤i+j)
    (Q:=fun c st'=>∃r o i j g ac bc,c=(r,o,i,j,g,ac,bc)∧Mid a b st (ia2+ib2) r o i j st') ?step2 ?fin2 ⟨_,_,_,_,_,_,rfl,l2,hI2,ha2,hb2,by omega⟩) ?post2)
   case fin2=>
    rintro c st' ⟨o,i,j,g,ac,bc,rfl,l,_,h1,h2,h3⟩
    exfalso
    omega
   case post2=>
    rintro c st' ⟨r,o,i,j,g,ac,bc,rfl,l,⟨x2,rfl,hg⟩ | ⟨rfl,hI4,ha4,hb4,hn4⟩⟩
    ·exact wpS_pure ⟨l,x2,rfl,hg⟩
    ·dsimp only
     exact wpS_bind (rq fun st5 l5=>wpS_pure ⟨_,_,_,_,rfl,l.trans l5,hI4,ha4,hb4,by omega⟩)
   case step2=>
    rintro y c st3 _ hy ⟨out,ia,ib,g,ac,bc,rfl,l3,hI,ha3,hb3,hn3⟩
    dsimp only
    refine bg (fun _=>?_) (fun _=>?_)
    all_goals
     refine wpS_bind (rq fun st2 l2=>?_)
     have l2:=l3.trans l2
     refine wpS_bind (aw IB hb3 fun t0 q0 e0 mP0 mR0=>?_)
     refine wpS_bind (dr mP0 mR0 (l2.kind.trans hk) IA (by omega) (by omega) (Seg.from sa (by omega)) fun k h1 h2 h3=>?_)
     dsimp only
     by_cases k0:k > 0
     ·rw [if_pos k0]
      have hI2:=hI.as sb k fun j g1 g2=>by
       have:=Fs.mp (h2 (j - ia) (by omega))
       rwa [show ia+(j - ia)=j by omega] at this
      by_cases z1:ia+k+1=a.size
      ·rw [if_pos (by simpa using z1)]
       exact wpS_pure ⟨_,_,_,_,_,_,_,rfl,l2,.inl ⟨_,rfl,hI2.last z1 hl⟩⟩
      rw [if_neg (by simpa using z1)]
      by_cases z2:ia+k=a.size
      ·rw [if_pos (by simpa using z2)]
       exact wpS_pure ⟨_,_,_,_,_,_,_,rfl,l2,.inl ⟨_,rfl,hI2.fin (.inl z2)⟩⟩
      rw [if_neg (by simpa using z2)]
      have hle:=Int.le_of_lt (x9.mp (h3 k (by omega) (by omega)))
      refine wpS_bind (aw IB (by omega) fun t1 q1 e1 mP1 mR1=>?_)
      have hI3:=hI2.b1 sa e1 hle
      by_cases z3:ib+1=b.size
      ·rw [if_pos (by simpa using z3)]
       exact wpS_pure ⟨_,_,_,_,_,_,_,rfl,l2,.inl ⟨_,rfl,hI3.fin (.inr z3)⟩⟩
      ·rw [if_neg (by simpa using z3)]
       refine wpS_bind (aw IA (by omega) fun t2 q2 e2 mP2 mR2=>?_)
       refine wpS_bind (dr mP2 mR2 (l2.kind.trans hk) IB (by omega) (by omega) (Seg.from sb (by omega)) fun k2 g1 g2 g3=>?_)
       dsimp only
       by_cases k20:k2 > 0
       ·rw [if_pos k20]
        have hI3:=hI3.bs sa k2 fun j h1 h2=>by
         have:=uw.mp (g2 (j - (ib+1)) (by omega))
         rw [show ib+1+(j - (ib+1))=j by omega] at this
         omega
        by_cases z4:ib+1+k2=b.size
        ·rw [if_pos (by simpa using z4)]
         exact wpS_pure ⟨_,_,_,_,_,_,_,rfl,l2,.inl ⟨_,rfl,hI3.fin (.inr z4)⟩⟩
        ·rw [if_neg (by simpa using z4)]
         have hge:=mv.mp (g3 k2 (by omega) (by omega))
         refine wpS_bind (aw IA (by omega) fun t3 q3 e3 mP3 mR3=>?_)
         have hI4:=hI3.a1 sb e3 hge
         refine bg (fun z5=>?_) (fun z5=>?_)
         ·exact wpS_pure ⟨_,_,_,_,_,_,_,rfl,l2,.inl ⟨_,rfl,hI4.last (eq_of_beq z5) hl⟩⟩
         ·rw [beq_iff_eq] at z5
          refine bg (fun _=>?_) (fun _=>?_)
          ·exact wpS_pure ⟨_,_,_,_,_,_,_,rfl,l2,.inr ⟨rfl,hI4,by omega,by omega,by omega⟩⟩
          ·exact wpS_pure ⟨_,_,_,_,_,_,rfl,l2,hI4,by omega,by omega,by omega⟩
       ·rw [if_neg k20]
        obtain rfl:k2=0:=by omega
        have hge:=mv.mp (g3 0 (by omega) (by omega))
        refine wpS_bind (aw IA (by omega) fun t3 q3 e3 mP3 mR3=>?_)
        have hI4:=hI3.a1 sb e3 hge
        refine bg (fun z5=>?_) (fun z5=>?_)
        ·exact wpS_pure ⟨_,_,_,_,_,_,_,rfl,l2,.inl ⟨_,rfl,hI4.last (eq_of_beq z5) hl⟩⟩
        ·rw [beq_iff_eq] at z5
         refine bg (fun _=>?_) (fun _=>?_)
         ·exact wpS_pure ⟨_,_,_,_,_,_,_,rfl,l2,.inr ⟨rfl,hI4,by omega,by omega,by omega⟩⟩
         ·exact wpS_pure ⟨_,_,_,_,_,_,rfl,l2,hI4,by omega,by omega,by omega⟩
     ·rw [if_neg k0]
      obtain rfl:k=0:=by omega
      have hI2:=hI
      have hle:=Int.le_of_lt (x9.mp (h3 0 (by omega) (by omega)))
      refine wpS_bind (aw IB (by omega) fun t1 q1 e1 mP1 mR1=>?_)
      have hI3:=hI2.b1 sa e1 hle
      by_cases z3:ib+1=b.size
      ·rw [if_pos (by simpa using z3)]
       exact wpS_pure ⟨_,_,_,_,_,_,_,rfl,l2,.inl ⟨_,rfl,hI3.fin (.inr z3)⟩⟩
      ·rw [if_neg (by simpa using z3)]
       refine wpS_bind (aw IA (by omega) fun t2 q2 e2 mP2 mR2=>?_)
       refine wpS_bind (dr mP2 mR2 (l2.kind.trans hk) IB (by omega) (by omega) (Seg.from sb (by omega)) fun k2 g1 g2 g3=>?_)
       dsimp only
       by_cases k20:k2 > 0
       ·rw [if_pos k20]
        have hI3:=hI3.bs sa k2 fun j h1 h2=>by
         have:=uw.mp (g2 (j - (ib+1)) (by omega))
         rw [show ib+1+(j - (ib+1))=j by omega] at this
         omega
        by_cases z4:ib+1+k2=b.size
        ·rw [if_pos (by simpa using z4)]
         exact wpS_pure ⟨_,_,_,_,_,_,_,rfl,l2,.inl ⟨_,rfl,hI3.fin (.inr z4)⟩⟩
        ·rw [if_neg (by simpa using z4)]
         have hge:=mv.mp (g3 k2 (by omega) (by omega))
         refine wpS_bind (aw IA (by omega) fun t3 q3 e3 mP3 mR3=>?_)
         have hI4:=hI3.a1 sb e3 hge
         refine bg (fun z5=>?_) (fun z5=>?_)
         ·exact wpS_pure ⟨_,_,_,_,_,_,_,rfl,l2,.inl ⟨_,rfl,hI4.last (eq_of_beq z5) hl⟩⟩
         ·rw [beq_iff_eq] at z5
          refine bg (fun _=>?_) (fun _=>?_)
          ·exact wpS_pure ⟨_,_,_,_,_,_,_,rfl,l2,.inr ⟨rfl,hI4,by omega,by omega,by omega⟩⟩
          ·exact wpS_pure ⟨_,_,_,_,_,_,rfl,l2,hI4,by omega,by omega,by omega⟩
       ·rw [if_neg k20]
        obtain rfl:k2=0:=by omega
        have hge:=mv.mp (g3 0 (by omega) (by omega))
        refine wpS_bind (aw IA (by omega) fun t3 q3 e3 mP3 mR3=>?_)
        have hI4:=hI3.a1 sb e3 hge
        refine bg (fun z5=>?_) (fun z5=>?_)
        ·exact wpS_pure ⟨_,_,_,_,_,_,_,rfl,l2,.inl ⟨_,rfl,hI4.last (eq_of_beq z5) hl⟩⟩
        ·rw [beq_iff_eq] at z5
         refine bg (fun _=>?_) (fun _=>?_)
         ·exact wpS_pure ⟨_,_,_,_,_,_,_,rfl,l2,.inr ⟨rfl,hI4,by omega,by omega,by omega⟩⟩
         ·exact wpS_pure ⟨_,_,_,_,_,_,rfl,l2,hI4,by omega,by omega,by omega⟩
end
end ei
namespace ei
open PySem PyProof.Rows
variable [Rk]
noncomputable def Jl:Array Keyed→Array Keyed→StateT SortSt Sem (Array Keyed):=sortPriv% PySem.Builtin.mergeHi
structure Ouh (o ra rb all:List Keyed):Prop where
 perm:(ra++rb++o).Perm all
 srt:Srt o
 sa:Srt ra
 sb:Srt rb
 high:∀x∈o,∀y,y∈ra∨y∈rb→fq y≤fq x
theorem Ouh.Jh {o ra rb all:List Keyed} (h:Ouh o ra rb all) (k:Nat) (hk:∀x∈ra.drop k,∀y∈rb,fq y≤fq x):Ouh (ra.drop k++o) (ra.take k) rb all:=by
 obtain ⟨s1,s2,s3⟩:=h.sa.split k
 refine ⟨?_,?_,s1,h.sb,fun x hx y hy=>?_⟩
 ·refine List.Perm.trans ?_ h.perm
  conv=>rhs;rw [←List.take_append_drop k ra]
  rw [←List.append_assoc]
  refine List.Perm.append_right o ?_
  rw [List.append_assoc,List.append_assoc]
  exact List.Perm.append_left _ List.perm_append_comm
 ·unfold Srt
  rw [List.pairwise_append]
  exact ⟨s2,h.srt,fun x hx y hy=>h.high y hy x (.inl (List.mem_of_mem_drop hx))⟩
 ·rcases List.mem_append.mp hx with k1 | k1
  ·rcases hy with hy | hy
   ·exact s3 y hy x k1
   ·exact hk x k1 y hy
  ·exact h.high x k1 y (hy.imp List.mem_of_mem_take id)
theorem Ouh.Kc {o ra rb all:List Keyed} (h:Ouh o ra rb all) (k:Nat) (hk:∀x∈rb.drop k,∀y∈ra,fq y≤fq x):Ouh (rb.drop k++o) ra (rb.take k) all:=by
 obtain ⟨s1,s2,s3⟩:=h.sb.split k
 refine ⟨?_,?_,h.sa,s1,fun x hx y hy=>?_⟩
 ·refine List.Perm.trans ?_ h.perm
  conv=>rhs;rw [←List.take_append_drop k rb]
  rw [←List.append_assoc,←List.append_assoc]
 ·unfold Srt
  rw [List.pairwise_append]
  exact ⟨s2,h.srt,fun x hx y hy=>h.high y hy x (.inr (List.mem_of_mem_drop hx))⟩
 ·rcases List.mem_append.mp hx with k1 | k1
  ·rcases hy with hy | hy
   ·exact hk x k1 y hy
   ·exact s3 y hy x k1
  ·exact h.high x k1 y (hy.imp id List.mem_of_mem_take)
theorem Ouh.done {o ra rb all:List Keyed} (h:Ouh o ra rb all) (he:ra=[]∨rb=[]):(ra++rb++o).Perm all∧Srt (ra++rb++o):=by
 refine ⟨h.perm,?_⟩
 unfold Srt
 rcases he with rfl | rfl
 ·rw [List.nil_append,List.pairwise_append]
  exact ⟨h.sb,h.srt,fun x hx y hy=>h.high y hy x (.inr hx)⟩
 ·rw [List.append_nil,List.pairwise_append]
  exact ⟨h.sa,h.srt,fun x hx y hy=>h.high y hy x (.inl hx)⟩
theorem Ouh.first {o ra rb all:List Keyed} (h:Ouh o ra rb all) (he:∀y∈rb,∀x∈ra,fq y≤fq x):(rb++ra++o).Perm all∧Srt (rb++ra++o):=by
 refine ⟨?_,?_⟩
 ·refine List.Perm.trans ?_ h.perm
  exact List.Perm.append_right o List.perm_append_comm
 ·unfold Srt
  rw [List.pairwise_append,List.pairwise_append]
  refine ⟨⟨h.sb,h.sa,he⟩,h.srt,fun x hx y hy=>?_⟩
  rcases List.mem_append.mp hx with k | k
  ·exact h.high y hy x (.inr k)
  ·exact h.high y hy x (.inl k)
def fh (a b out:Array Keyed) (na nb:Nat):Prop:=Ouh out.toList.reverse (a.toList.take na) (b.toList.take nb) (a.toList++b.toList)
theorem E7 {a:Array Keyed} {i k:Nat} {x:Keyed} (h:x∈(a.toList.take k).drop i):∃j,i≤j∧j < k∧j < a.size∧fq x=K a j:=by
 obtain ⟨m,hm,e⟩:=List.getElem_of_mem h
 rw [List.length_drop,List.length_take] at hm
 have hl:a.toList.length=a.size:=Array.length_toList
 refine ⟨i+m,by omega,by omega,by omega,?_⟩
 refine (y8 ?_).symm
 rw [←Array.getElem?_toList,←e,List.getElem_drop,List.getElem_take]
 exact List.getElem?_eq_getElem (by omega)
theorem Dy (a:Array Keyed) (i k:Nat):(a.extract i k).toList=(a.toList.take k).drop i:=by
 rw [cn,List.drop_take]
section
variable {a b out:Array Keyed} {na nb:Nat}
theorem fh.start (ha:Seg a 0 a.size) (hb:Seg b 0 b.size):fh a b #[] a.size b.size:=by
 have e1:a.toList.take a.size=a.toList:=List.take_of_length_le (by rw [Array.length_toList];omega)
 have e2:b.toList.take b.size=b.toList:=List.take_of_length_le (by rw [Array.length_toList];omega)
 unfold fh
 rw [e1,e2]
 exact ⟨by show (a.toList++b.toList++[]).Perm _;rw [List.append_nil],List.Pairwise.nil,yg ha,yg hb,fun x hx=>nomatch hx⟩
theorem fh.as (h:fh a b out na nb) (hb:Seg b 0 b.size) (hnb:1≤nb) (hnb2:nb≤b.size) (k:Nat) (hkn:k≤na) (hk:∀j,k≤j→j < na→K b (nb - 1)≤K a j):fh a b (out++(a.extract k na).reverse) k nb:=by
 have z:=Ouh.Jh h k fun x hx y hy=>by
  obtain ⟨j,h1,h2,h3,e⟩:=E7 hx
  obtain ⟨m,g1,g2,e2⟩:=nh hy
  rw [e,e2]
  exact Int.le_trans (hb m (nb - 1) (by omega) (by omega) (by omega)) (hk j h1 h2)
 unfold fh
 rw [Array.toList_append,Array.toList_reverse,List.reverse_append,List.reverse_reverse,Dy]
 rw [List.take_take,show min k na=k by omega] at z
 exact z
theorem fh.bs (h:fh a b out na nb) (ha:Seg a 0 a.size) (hna:1≤na) (hna2:na≤a.size) (k:Nat) (hkn:k≤nb) (hk:∀j,k≤j→j < nb→K a (na - 1)≤K b j):fh a b (out++(b.extract k nb).reverse) na k:=by
 have z:=Ouh.Kc h k fun x hx y hy=>by
  obtain ⟨j,h1,h2,h3,e⟩:=E7 hx
  obtain ⟨m,g1,g2,e2⟩:=nh hy
  rw [e,e2]
  exact Int.le_trans (ha m (na - 1) (by omega) (by omega) (by omega)) (hk j h1 h2)
 unfold fh
 rw [Array.toList_append,Array.toList_reverse,List.reverse_append,List.reverse_reverse,Dy]
 rw [List.take_take,show min k nb=k by omega] at z
 exact z
theorem zu {a:Array Keyed} {i:Nat} {x:Keyed} (hi:1≤i) (e:a[i - 1]?=some x):out.push x=out++(a.extract (i - 1) i).reverse:=by
 apply Array.toList_inj.mp
 rw [Array.toList_push,Array.toList_append,Array.toList_reverse,cn,drop_cons e,show i - (i - 1)=1 by omega]
 rfl
theorem fh.a1 (h:fh a b out na nb) (hb:Seg b 0 b.size) (hnb:1≤nb) (hnb2:nb≤b.size) {x:Keyed} (hna:1≤na) (e:a[na - 1]?=some x) (hk:K b (nb - 1)≤K a (na - 1)):fh a b (out.push x) (na - 1) nb:=by
 rw [zu hna e]
 exact h.as hb hnb hnb2 _ (by omega) fun j h1 h2=>by
  have:j=na - 1:=by omega
  subst this
  exact hk
theorem fh.b1 (h:fh a b out na nb) (ha:Seg a 0 a.size) (hna:1≤na) (hna2:na≤a.size) {x:Keyed} (hnb:1≤nb) (e:b[nb - 1]?=some x) (hk:K a (na - 1)≤K b (nb - 1)):fh a b (out.push x) na (nb - 1):=by
 rw [zu hnb e]
 exact h.bs ha hna hna2 _ (by omega) fun j h1 h2=>by
  have:j=nb - 1:=by omega
  subst this
  exact hk
theorem kh (a:Array Keyed) (i:Nat):(a.extract 0 i).toList=a.toList.take i:=by
 rw [cn]
 rfl
theorem fh.fin (h:fh a b out na nb) (e:na=0∨nb=0):Good a b (a.extract 0 na++b.extract 0 nb++out.reverse):=by
 unfold Good
 rw [Array.toList_append,Array.toList_append,kh,kh,Array.toList_reverse]
 refine Ouh.done h (e.imp ?_ ?_)
 ·rintro rfl;rfl
 ·rintro rfl;rfl
theorem fh.first (h:fh a b out na nb) (e:nb=1) (hl:∀j,j < a.size→K b 0≤K a j):Good a b (b.extract 0 nb++a.extract 0 na++out.reverse):=by
 unfold Good
 rw [Array.toList_append,Array.toList_append,kh,kh,Array.toList_reverse]
 refine Ouh.first h fun y hy x hx=>?_
 obtain ⟨j,h1,h2,e1⟩:=nh hx
 obtain ⟨m,g1,g2,e2⟩:=nh hy
 rw [e1,e2,show m=0 by omega]
 exact hl j h2
end
section
variable {prog:Program} {w:World} {A:Around} {E:Value→Shared→Prop} {s:Shared} [LtR prog w A E s]
def MidH (a b:Array Keyed) (st:SortSt) (n:Nat) (r:Option (Array Keyed)) (o:Array Keyed) (i j:Nat) (st':SortSt):Prop:=
 Lk st st'∧((∃x,r=some x∧Good a b x)∨(r=none∧fh a b o i j∧1≤i∧i≤a.size∧2≤j∧j≤b.size∧i+j≤n))
theorem Seg.to {a:Array Keyed} {n:Nat} (h:Seg a 0 a.size) (e:n≤a.size):Seg a 0 (0+n):=fun x y h1 h2 h3=>h x y (by omega) h2 (by omega)
theorem Cv {st:SortSt} {a b:Array Keyed} {Q:Array Keyed→SortSt→Prop} (hk:kindOf st=Rk.kd) (IA:IntKeys a) (IB:IntKeys b) (na:1≤a.size) (nb:1≤b.size) (sa:Seg a 0 a.size) (sb:Seg b 0 b.size)
  (hf:K b 0≤K a 0) (hl:∀j,j < b.size→K b j≤K a (a.size - 1))
  (h:∀r st',Lk st st'→Good a b r→Q r st'):wpS (model prog w) A E s (Jl a b) Q st:=by
 have hf':∀j,j < a.size→K b 0≤K a j:=fun j hj=>Int.le_trans hf (sa 0 j (by omega) (by omega) hj)
 refine wpS_bind (wpS_lift (wpAny_rule ⟨rfl,?_⟩))
 dsimp only
 refine wpS_bind (aw IA (by omega) fun t0 p0 e0 mP0 mR0=>?_)
 have hI:fh a b #[(t0,p0)] (a.size - 1) b.size:=(fh.start sa sb).a1 sb (by omega) (by omega) (by omega) e0 (hl (b.size - 1) (by omega))
 by_cases z1:a.size - 1=0
 ·rw [if_pos (by simpa using z1)]
  exact wpS_pure (h _ _ (Lk.refl _) (hI.fin (.inl z1)))
 rw [if_neg (by simpa using z1)]
 by_cases z2:b.size=1
 ·rw [if_pos (by simpa using z2)]
  exact wpS_pure (h _ _ (Lk.refl _) (hI.first z2 hf'))
 rw [if_neg (by simpa using z2)]
 refine wpS_bind (wpS_get ?_)
 refine wpS_bind (wpS_mono (wpS_forRange (I:=fun x c st'=>∃o i j g,c=(none,i,j,o,g)∧Lk st st'∧fh a b o i j∧1≤i∧i≤a.size∧2≤j∧j≤b.size∧i+j+x≤a.size+b.size)
  (Q:=fun c st'=>Lk st st'∧∃x,c.1=some x∧Good a b x) ?step ?fin ?init) ?post)
 case init=>exact ⟨_,_,_,_,rfl,Lk.refl _,hI,by omega,by omega,by omega,by omega,by omega⟩
 case post=>
  rintro c st' ⟨l,x,e,g⟩
  rw [e]
  exact wpS_pure (h _ _ l g)
 case fin=>
  rintro c st' ⟨o,i,j,g,rfl,l,_,h1,h2,h3,h4,h5⟩
  exfalso
  omega
 case step=>
  rintro x c st1 _ hx ⟨out,na,nb,g,rfl,l1,hI,ha,ha',hb,hb',hn⟩
  dsimp only
  refine wpS_bind (wpS_mono (wpS_forRange (I:=fun y c st'=>∃o i j ac bc,c=(none,i,j,o,ac,bc)∧Lk st st'∧fh a b o i j∧1≤i∧i≤a.size∧2≤j∧j≤b.size∧i+j+y≤na+nb)
   (Q:=fun c st'=>∃r o i j ac bc,c=(r,i,j,o,ac,bc)∧MidH a b st (na+nb - 1) r o i j st') ?step1 ?fin1 ⟨_,_,_,_,_,rfl,l1,hI,ha,ha',hb,hb',by omega⟩) ?post1)
  case fin1=>
   rintro c st' ⟨o,i,j,ac,bc,rfl,l,_,h1,h2,h3,h4,h5⟩
   exfalso
   omega
  case step1=>
   rintro y c st2 _ hy ⟨out,na2,nb2,ac,bc,rfl,l2,hI,ha2,ha2',hb2,hb2',hn2⟩
   dsimp only
   refine wpS_bind (aw IB (by omega) fun t1 p1 e1 mP1 mR1=>?_)
   refine wpS_bind (aw IA (by omega) fun t2 p2 e2 mP2 mR2=>?_)
   refine wpS_bind (Ff mP1 mR1 mP2 mR2 (l2.kind.trans hk) ?_)
   dsimp only
   by_cases hw:K b (nb2 - 1) < K a (na2 - 1)
   ·rw [if_pos (by simpa using hw)]
    refine wpS_bind (aw IA (by omega) fun t3 p3 e3 mP3 mR3=>?_)
    have hI2:=hI.a1 sb (by omega) (by omega) (by omega) e3 (Int.le_of_lt hw)
    refine bg (fun z3=>?_) (fun z3=>?_)
    ·exact wpS_pure ⟨_,_,_,_,_,_,rfl,l2,.inl ⟨_,rfl,hI2.fin (.inl (eq_of_beq z3))⟩⟩
    ·rw [beq_iff_eq] at z3
     refine bg (fun _=>?_) (fun _=>?_)
     ·exact wpS_pure ⟨_,_,_,_,_,_,rfl,l2,.inr ⟨rfl,hI2,by omega,by omega,by omega,by omega,by omega⟩⟩
     ·exact wpS_pure ⟨_,_,_,_,_,rfl,l2,hI2,by omega,by omega,by omega,by omega,by omega⟩
   ·rw [if_neg (by simpa using hw)]
    refine wpS_bind (aw IB (by omega) fun t3 p3 e3 mP3 mR3=>?_)
    have hI2:=hI.b1 sa (by omega) (by omega) (by omega) e3 (Int.not_lt.mp hw)
    refine bg (fun z3=>?_) (fun z3=>?_)
    ·exact wpS_pure ⟨_,_,_,_,_,_,rfl,l2,.inl ⟨_,rfl,hI2.first (eq_of_beq z3) hf'⟩⟩
    ·rw [beq_iff_eq] at z3
     refine bg (fun _=>?_) (fun _=>?_)
     ·exact wpS_pure ⟨_,_,_,_,_,_,rfl,l2,.inr ⟨rfl,hI2,by omega,by omega,by omega,by omega,by omega⟩⟩
     ·exact wpS_pure ⟨_,_,_,_,_,rfl,l2,hI2,by omega,by omega,by omega,by omega,by omega⟩
  case post1=>
   rintro c st2 ⟨r,out2,na2,nb2,ac,bc,rfl,l2,⟨x2,rfl,hg⟩ | ⟨rfl,hI2,ha2,ha2',hb2,hb2',hn2⟩⟩
   ·exact wpS_pure ⟨l2,x2,rfl,hg⟩
   dsimp only
   refine wpS_bind (wpS_lift (wpAny_rule ⟨rfl,?_⟩))
   refine wpS_bind (wpS_mono (wpS_forRange (I:=fun y c st'=>∃o i j g ac bc,c=(none,i,j,o,g,ac,bc)∧Lk st st'∧fh a b o i j∧1≤i∧i≤a.size∧2≤j∧j≤b.size∧i+j+y≤na2+nb2)
    (Q:=fun c st'=>∃r o i j g ac bc,c=(r,i,j,o,g,ac,bc)∧MidH a b st (na2+nb2) r o i j st') ?step2 ?fin2 ⟨_,_,_,_,_,_,rfl,l2,hI2,ha2,ha2',hb2,hb2',by omega⟩) ?post2)
   case fin2=>
    rintro c st' ⟨o,i,j,g,ac,bc,rfl,l,_,h1,h2,h3,h4,h5⟩
    exfalso
    omega
   case post2=>
    rintro c st' ⟨r,o,i,j,g,ac,bc,rfl,l,⟨x2,rfl,hg⟩ | ⟨rfl,hI4,ha4,ha4',hb4,hb4',hn4⟩⟩
    ·exact wpS_pure ⟨l,x2,rfl,hg⟩
    ·dsimp only
     exact wpS_bind (rq fun st5 l5=>wpS_pure ⟨_,_,_,_,rfl,l.trans l5,hI4,ha4,ha4',hb4,hb4',by omega⟩)
   case step2=>
    rintro y c st3 _ hy ⟨out,na,nb,g,ac,bc,rfl,l3,hI,ha3,ha3',hb3,hb3',hn3⟩
    dsimp only
    refine bg (fun _=>?_) (fun _=>?_)
    all_goals
     refine wpS_bind (rq fun st2 l2=>?_)
     have l2:=l3.trans l2
     refine wpS_bind (aw IB (by omega) fun t0 q0 e0 mP0 mR0=>?_)
     refine wpS_bind (dr mP0 mR0 (l2.kind.trans hk) IA (by omega) (by omega) (Seg.to sa (by omega)) fun k h1 h2 h3=>?_)
     dsimp only
     by_cases k0:na - k > 0
     ·rw [if_pos k0]
      have hI2:=hI.as sb (by omega) (by omega) k h1 fun j g1 g2=>by
       have:=x9.mp (h3 j (by omega) (by omega))
       rw [Nat.zero_add] at this
       exact Int.le_of_lt this
      refine bg (fun z1=>?_) (fun z1=>?_)
      ·exact wpS_pure ⟨_,_,_,_,_,_,_,rfl,l2,.inl ⟨_,rfl,hI2.fin (.inl (eq_of_beq z1))⟩⟩
      rw [beq_iff_eq] at z1
      have hle:=Fs.mp (h2 (k - 1) (by omega))
      rw [Nat.zero_add] at hle
      refine wpS_bind (aw IB (by omega) fun t1 q1 e1 mP1 mR1=>?_)
      have hI3:=hI2.b1 sa (by omega) (by omega) (by omega) e1 hle
      refine bg (fun z3=>?_) (fun z3=>?_)
      ·exact wpS_pure ⟨_,_,_,_,_,_,_,rfl,l2,.inl ⟨_,rfl,hI3.first (eq_of_beq z3) hf'⟩⟩
      ·rw [beq_iff_eq] at z3
       refine wpS_bind (aw IA (by omega) fun t2 q2 e2 mP2 mR2=>?_)
       refine wpS_bind (dr mP2 mR2 (l2.kind.trans hk) IB (by omega) (by omega) (Seg.to sb (by omega)) fun k2 g1 g2 g3=>?_)
       dsimp only
       by_cases k20:nb - 1 - k2 > 0
       ·rw [if_pos k20]
        have hI3:=hI3.bs sa (by omega) (by omega) k2 g1 fun j h1 h2=>by
         have:=mv.mp (g3 j (by omega) (by omega))
         rwa [Nat.zero_add] at this
        refine bg (fun z4=>?_) (fun z4=>?_)
        ·exact wpS_pure ⟨_,_,_,_,_,_,_,rfl,l2,.inl ⟨_,rfl,hI3.first (eq_of_beq z4) hf'⟩⟩
        ·rw [beq_iff_eq] at z4
         refine bg (fun z5=>?_) (fun z5=>?_)
         ·exact wpS_pure ⟨_,_,_,_,_,_,_,rfl,l2,.inl ⟨_,rfl,hI3.fin (.inr (eq_of_beq z5))⟩⟩
         ·rw [beq_iff_eq] at z5
          have hge:=Int.le_of_lt (uw.mp (g2 (k2 - 1) (by omega)))
          rw [Nat.zero_add] at hge
          refine wpS_bind (aw IA (by omega) fun t3 q3 e3 mP3 mR3=>?_)
          have hI4:=hI3.a1 sb (by omega) (by omega) (by omega) e3 hge
          refine bg (fun z5=>?_) (fun z5=>?_)
          ·exact wpS_pure ⟨_,_,_,_,_,_,_,rfl,l2,.inl ⟨_,rfl,hI4.fin (.inl (eq_of_beq z5))⟩⟩
          ·rw [beq_iff_eq] at z5
           refine bg (fun _=>?_) (fun _=>?_)
           ·exact wpS_pure ⟨_,_,_,_,_,_,_,rfl,l2,.inr ⟨rfl,hI4,by omega,by omega,by omega,by omega,by omega⟩⟩
           ·exact wpS_pure ⟨_,_,_,_,_,_,rfl,l2,hI4,by omega,by omega,by omega,by omega,by omega⟩
       ·rw [if_neg k20]
        obtain rfl:k2=nb - 1:=by omega
        have hge:=Int.le_of_lt (uw.mp (g2 (nb - 1 - 1) (by omega)))
        rw [Nat.zero_add] at hge
        refine wpS_bind (aw IA (by omega) fun t3 q3 e3 mP3 mR3=>?_)
        have hI4:=hI3.a1 sb (by omega) (by omega) (by omega) e3 hge
        refine bg (fun z5=>?_) (fun z5=>?_)
        ·exact wpS_pure ⟨_,_,_,_,_,_,_,rfl,l2,.inl ⟨_,rfl,hI4.fin (.inl (eq_of_beq z5))⟩⟩
        ·rw [beq_iff_eq] at z5
         refine bg (fun _=>?_) (fun _=>?_)
         ·exact wpS_pure ⟨_,_,_,_,_,_,_,rfl,l2,.inr ⟨rfl,hI4,by omega,by omega,by omega,by omega,by omega⟩⟩
         ·exact wpS_pure ⟨_,_,_,_,_,_,rfl,l2,hI4,by omega,by omega,by omega,by omega,by omega⟩
     ·rw [if_neg k0]
      obtain rfl:k=na:=by omega
      have hI2:=hI
      have hle:=Fs.mp (h2 (k - 1) (by omega))
      rw [Nat.zero_add] at hle
      refine wpS_bind (aw IB (by omega) fun t1 q1 e1 mP1 mR1=>?_)
      have hI3:=hI2.b1 sa (by omega) (by omega) (by omega) e1 hle
      refine bg (fun z3=>?_) (fun z3=>?_)
      ·exact wpS_pure ⟨_,_,_,_,_,_,_,rfl,l2,.inl ⟨_,rfl,hI3.first (eq_of_beq z3) hf'⟩⟩
      ·rw [beq_iff_eq] at z3
       refine wpS_bind (aw IA (by omega) fun t2 q2 e2 mP2 mR2=>?_)
       refine wpS_bind (dr mP2 mR2 (l2.kind.trans hk) IB (by omega) (by omega) (Seg.to sb (by omega)) fun k2 g1 g2 g3=>?_)
       dsimp only
       by_cases k20:nb - 1 - k2 > 0
       ·rw [if_pos k20]
        have hI3:=hI3.bs sa (by omega) (by omega) k2 g1 fun j h1 h2=>by
         have:=mv.mp (g3 j (by omega) (by omega))
         rwa [Nat.zero_add] at this
        refine bg (fun z4=>?_) (fun z4=>?_)
        ·exact wpS_pure ⟨_,_,_,_,_,_,_,rfl,l2,.inl ⟨_,rfl,hI3.first (eq_of_beq z4) hf'⟩⟩
        ·rw [beq_iff_eq] at z4
         refine bg (fun z5=>?_) (fun z5=>?_)
         ·exact wpS_pure ⟨_,_,_,_,_,_,_,rfl,l2,.inl ⟨_,rfl,hI3.fin (.inr (eq_of_beq z5))⟩⟩
         ·rw [beq_iff_eq] at z5
          have hge:=Int.le_of_lt (uw.mp (g2 (k2 - 1) (by omega)))
          rw [Nat.zero_add] at hge
          refine wpS_bind (aw IA (by omega) fun t3 q3 e3 mP3 mR3=>?_)
          have hI4:=hI3.a1 sb (by omega) (by omega) (by omega) e3 hge
          refine bg (fun z5=>?_) (fun z5=>?_)
          ·exact wpS_pure ⟨_,_,_,_,_,_,_,rfl,l2,.inl ⟨_,rfl,hI4.fin (.inl (eq_of_beq z5))⟩⟩
          ·rw [beq_iff_eq] at z5
           refine bg (fun _=>?_) (fun _=>?_)
           ·exact wpS_pure ⟨_,_,_,_,_,_,_,rfl,l2,.inr ⟨rfl,hI4,by omega,by omega,by omega,by omega,by omega⟩⟩
           ·exact wpS_pure ⟨_,_,_,_,_,_,rfl,l2,hI4,by omega,by omega,by omega,by omega,by omega⟩
       ·rw [if_neg k20]
        obtain rfl:k2=nb - 1:=by omega
        have hge:=Int.le_of_lt (uw.mp (g2 (nb - 1 - 1) (by omega)))
        rw [Nat.zero_add] at hge
        refine wpS_bind (aw IA (by omega) fun t3 q3 e3 mP3 mR3=>?_)
        have hI4:=hI3.a1 sb (by omega) (by omega) (by omega) e3 hge
        refine bg (fun z5=>?_) (fun z5=>?_)
        ·exact wpS_pure ⟨_,_,_,_,_,_,_,rfl,l2,.inl ⟨_,rfl,hI4.fin (.inl (eq_of_beq z5))⟩⟩
        ·rw [beq_iff_eq] at z5
         refine bg (fun _=>?_) (fun _=>?_)
         ·exact wpS_pure ⟨_,_,_,_,_,_,_,rfl,l2,.inr ⟨rfl,hI4,by omega,by omega,by omega,by omega,by omega⟩⟩
         ·exact wpS_pure ⟨_,_,_,_,_,_,rfl,l2,hI4,by omega,by omega,by omega,by omega,by omega⟩
end
end ei
namespace ei
open PySem PyProof.Rows
variable [Rk]
theorem wp_set {σ:Type} {M:Model} {A:Around} {E:Value→Shared→Prop} {s:Shared} {Q:PUnit→σ→Prop} {st st':σ} (h:Q ⟨⟩ st'):wpS M A E s (set st':StateT σ Sem PUnit) Q st:=by
 unfold wpS
 rw [StateT.run_set]
 exact wpAny_pure ⟨rfl,h⟩
noncomputable def laid (s:Nat) (l:List Keyed) (n:Nat) (xs:Array Keyed):Array Keyed:=(l.zipIdx n).foldl (fun a (p,j)=>a.setIfInBounds (s+j) p) xs
theorem zg (s:Nat):∀(l:List Keyed) (n:Nat) (xs:Array Keyed),s+n+l.length≤xs.size→(laid s l n xs).size=xs.size∧∀i,(laid s l n xs)[i]?=if s+n≤i∧i < s+n+l.length then l[i - (s+n)]? else xs[i]?
 | [],n,xs,h=>⟨rfl,fun i=>by rw [if_neg (by rw [List.length_nil];omega)];rfl⟩
 | p::l,n,xs,h=>by
  rw [List.length_cons] at h
  have e:laid s (p::l) n xs=laid s l (n+1) (xs.setIfInBounds (s+n) p):=rfl
  obtain ⟨z1,z2⟩:=zg s l (n+1) (xs.setIfInBounds (s+n) p) (by rw [Array.size_setIfInBounds];omega)
  rw [e]
  refine ⟨z1.trans Array.size_setIfInBounds,fun i=>?_⟩
  rw [z2,List.length_cons]
  by_cases h1:s+(n+1)≤i∧i < s+(n+1)+l.length
  ·rw [if_pos h1,if_pos (by omega),show i - (s+n)=(i - (s+(n+1)))+1 by omega,List.getElem?_cons_succ]
  ·rw [if_neg h1]
   by_cases h2:i=s+n
   ·subst h2
    rw [if_pos (by omega),show s+n - (s+n)=0 by omega,Array.getElem?_setIfInBounds_self_of_lt (by omega)]
    rfl
   ·rw [if_neg (by omega),Array.getElem?_setIfInBounds_ne (by omega)]
theorem Gg {lo mid hi:Nat} {xs M:Array Keyed} (h1:lo≤mid) (h2:mid≤hi) (h3:hi≤xs.size) (hM:Good (xs.extract lo mid) (xs.extract mid hi) M):M.size=hi - lo∧(laid lo M.toList 0 xs).Perm xs:=by
 have hl:xs.toList.length=xs.size:=Array.length_toList
 have hm:M.toList.length=M.size:=Array.length_toList
 have e:(xs.extract lo mid).toList++(xs.extract mid hi).toList=(xs.toList.drop lo).take (hi - lo):=by
  rw [cn,cn,show hi - lo=(mid - lo)+(hi - mid) by omega,List.take_add,List.drop_drop,show lo+(mid - lo)=mid by omega]
 have sz:M.size=hi - lo:=by
  have:=hM.1.length_eq
  rw [e,List.length_take,List.length_drop] at this
  omega
 refine ⟨sz,?_⟩
 rw [Array.perm_iff_toList_perm]
 have ey:(laid lo M.toList 0 xs).toList=xs.toList.take lo++(M.toList++xs.toList.drop hi):=by
  obtain ⟨z1,z2⟩:=zg lo M.toList 0 xs (by omega)
  apply List.ext_getElem?
  intro i
  rw [Array.getElem?_toList,z2,hm,sz]
  rw [List.getElem?_append,List.getElem?_append,List.length_take,hm,sz,show min lo xs.toList.length=lo by omega]
  by_cases g1:i < lo
  ·rw [if_neg (by omega),if_pos g1,List.getElem?_take,if_pos g1,Array.getElem?_toList]
  ·rw [if_neg g1]
   by_cases g2:i < hi
   ·rw [if_pos (by omega),if_pos (by omega)]
    rfl
   ·rw [if_neg (by omega),if_neg (by omega),List.getElem?_drop,Array.getElem?_toList]
    congr 1
    omega
 rw [ey]
 have ex:xs.toList=xs.toList.take lo++((xs.toList.drop lo).take (hi - lo)++xs.toList.drop hi):=by
  conv=>lhs;rw [←List.take_append_drop lo xs.toList,←List.take_append_drop (hi - lo) (xs.toList.drop lo),List.drop_drop,show lo+(hi - lo)=hi by omega]
 conv=>rhs;rw [ex,←e]
 exact List.Perm.append_left _ (List.Perm.append_right _ hM.1)
theorem K_laid {lo:Nat} {xs M:Array Keyed} (h:lo+M.size≤xs.size) (i:Nat):K (laid lo M.toList 0 xs) i=if lo≤i∧i < lo+M.size then K M (i - lo) else K xs i:=by
 have hm:M.toList.length=M.size:=Array.length_toList
 obtain ⟨z1,z2⟩:=zg lo M.toList 0 xs (by omega)
 unfold K
 rw [z2,hm,Nat.add_zero]
 by_cases g:lo≤i∧i < lo+M.size
 ·rw [if_pos g,if_pos g,Array.getElem?_toList]
 ·rw [if_neg g,if_neg g]
theorem seg_of {M:Array Keyed} (h:Srt M.toList):Seg M 0 M.size:=fun i j _ h2 h3=>by
 by_cases e:i=j
 ·subst e;exact Int.le_refl _
 have hm:M.toList.length=M.size:=Array.length_toList
 have e1:M[i]?=some M.toList[i]:=by rw [←Array.getElem?_toList];exact List.getElem?_eq_getElem (by omega)
 have e2:M[j]?=some M.toList[j]:=by rw [←Array.getElem?_toList];exact List.getElem?_eq_getElem (by omega)
 rw [y8 e1,y8 e2]
 exact List.pairwise_iff_getElem.mp h i j (by omega) (by omega) (by omega)
theorem G8 {xs M:Array Keyed} {sa na nb k n2:Nat} (h:sa+na+nb≤xs.size) (hna:1≤na) (hnb:1≤nb) (s1:Seg xs sa (sa+na)) (s2:Seg xs (sa+na) (sa+na+nb)) (hk:k≤na) (hn2:n2≤nb)
  (g1:∀i,i < k→K xs (sa+i)≤K xs (sa+na)) (g2:∀i,n2≤i→i < nb→K xs (sa+na - 1)≤K xs (sa+na+i))
  (hM:Good (xs.extract (sa+k) (sa+na)) (xs.extract (sa+na) (sa+na+n2)) M):
  (laid (sa+k) M.toList 0 xs).Perm xs∧(∀i,i < sa∨sa+na+nb≤i→K (laid (sa+k) M.toList 0 xs) i=K xs i)∧Seg (laid (sa+k) M.toList 0 xs) sa (sa+(na+nb)):=by
 obtain ⟨sz,pm⟩:=Gg (by omega) (by omega) (by omega) hM
 have KL:=K_laid (lo:=sa+k) (xs:=xs) (M:=M) (by omega)
 have sM:=seg_of hM.2
 have hl:xs.toList.length=xs.size:=Array.length_toList
 have hm:M.toList.length=M.size:=Array.length_toList
 have from_:∀m,m < M.size→∃j,sa+k≤j∧j < sa+na+n2∧K M m=K xs j:=fun m hm'=>by
  have e1:M[m]?=some M.toList[m]:=by rw [←Array.getElem?_toList];exact List.getElem?_eq_getElem (by omega)
  have mem:M.toList[m]∈M.toList:=List.getElem_mem _
  have mem:=hM.1.mem_iff.mp mem
  rw [y8 e1]
  rcases List.mem_append.mp mem with q | q
  ·rw [cn] at q
   obtain ⟨j,j1,j2,j3,e⟩:=mem_mid q
   exact ⟨j,by omega,by omega,e⟩
  ·rw [cn] at q
   obtain ⟨j,j1,j2,j3,e⟩:=mem_mid q
   exact ⟨j,by omega,by omega,e⟩
 refine ⟨pm,fun i hi=>by rw [KL,if_neg (by omega)],fun i j h1 h2 h3=>?_⟩
 have low:∀i j,sa≤i→i < sa+k→i≤j→j < sa+na+nb→K xs i≤K xs j:=fun i j h1 h2 h3 h4=>by
  by_cases hj:j < sa+na
  ·exact s1 i j h1 h3 hj
  ·have:=g1 (i - sa) (by omega)
   rw [show sa+(i - sa)=i by omega] at this
   exact Int.le_trans this (s2 _ j (by omega) (by omega) (by omega))
 have high:∀i j,sa≤i→i≤j→sa+na+n2≤j→j < sa+na+nb→K xs i≤K xs j:=fun i j h1 h2 h3 h4=>by
  by_cases hi:i < sa+na
  ·have:=g2 (j - (sa+na)) (by omega) (by omega)
   rw [show sa+na+(j - (sa+na))=j by omega] at this
   exact Int.le_trans (s1 i _ h1 (by omega) (by omega)) this
  ·exact s2 i j (by omega) h2 (by omega)
 rw [KL,KL]
 by_cases c1:sa+k≤i∧i < sa+k+M.size
 ·rw [if_pos c1]
  by_cases c2:sa+k≤j∧j < sa+k+M.size
  ·rw [if_pos c2]
   exact sM _ _ (by omega) (by omega) (by omega)
  ·rw [if_neg c2]
   obtain ⟨m,m1,m2,e⟩:=from_ (i - (sa+k)) (by omega)
   rw [e]
   exact high m j (by omega) (by omega) (by omega) (by omega)
 ·rw [if_neg c1]
  by_cases c2:sa+k≤j∧j < sa+k+M.size
  ·rw [if_pos c2]
   obtain ⟨m,m1,m2,e⟩:=from_ (j - (sa+k)) (by omega)
   rw [e]
   exact low i m (by omega) (by omega) (by omega) (by omega)
  ·rw [if_neg c2]
   by_cases c3:i < sa+k
   ·exact low i j (by omega) c3 h2 (by omega)
   ·exact high i j (by omega) h2 (by omega) (by omega)
theorem Fp (xs:Array Keyed) {i j m:Nat} (hj:j≤xs.size) (hm:m < j - i):K (xs.extract i j) m=K xs (i+m):=by
 have hl:xs.toList.length=xs.size:=Array.length_toList
 unfold K
 rw [←Array.getElem?_toList,cn,List.getElem?_take,if_pos hm,List.getElem?_drop,Array.getElem?_toList]
theorem qt {xs:Array Keyed} (h:IntKeys xs) (i j:Nat):IntKeys (xs.extract i j):=fun p hp=>by
 rw [cn] at hp
 exact h p (List.mem_of_mem_drop (List.mem_of_mem_take hp))
theorem qr {xs:Array Keyed} {i j:Nat} (hj:j≤xs.size) (h:Seg xs i j):Seg (xs.extract i j) 0 (xs.extract i j).size:=fun x y h1 h2 h3=>by
 rw [Array.size_extract] at h3
 rw [Fp xs hj (by omega),Fp xs hj (by omega)]
 exact h _ _ (by omega) (by omega) (by omega)
section
variable {prog:Program} {w:World} {A:Around} {E:Value→Shared→Prop} {s:Shared} {a₀:Array Keyed} [LtR prog w A E s]
theorem Dm {st:SortSt} {i:Nat} {Q:Bool→SortSt→Prop} {p1 p2:List (Nat×Nat×Nat)} {sa na pw sb nb q:Nat} (h0:IntKeys a₀) (hB:TB a₀ st)
  (hp:(pendingOf st).toList=p1++(sa,na,pw)::(sb,nb,q)::p2) (hi:p1.length=i) (hs:sb=sa+na) (hna:1≤na) (hnb:1≤nb) (hsz:sb+nb≤a₀.size)
  (s1:Seg (arrOf st) sa (sa+na)) (s2:Seg (arrOf st) sb (sb+nb))
  (h:∀st',TB a₀ st'→(pendingOf st').toList=p1++(sa,na+nb,pw)::p2→(∀j,j < sa∨sa+(na+nb)≤j→K (arrOf st') j=K (arrOf st) j)→Seg (arrOf st') sa (sa+(na+nb))→Q true st'):
  wpS (model prog w) A E s (mergeAt' i) Q st:=by
 subst hs
 have hx:=IntKeys.perm h0 hB.perm
 have hz:=hB.size
 have e1:(pendingOf st)[i]?=some (sa,na,pw):=by
  rw [←Array.getElem?_toList,hp,List.getElem?_append_right (by omega),hi,Nat.sub_self]
  rfl
 have e2:(pendingOf st)[i+1]?=some (sa+na,nb,q):=by
  rw [←Array.getElem?_toList,hp,List.getElem?_append_right (by omega),hi,show i+1 - i=1 by omega]
  rfl
 have e3:(((pendingOf st).setIfInBounds i (sa,na+nb,pw)).eraseIdxIfInBounds (i+1)).toList=p1++(sa,na+nb,pw)::p2:=by
  have lp:(pendingOf st).size=i+2+p2.length:=by
   rw [←Array.length_toList,hp,List.length_append,List.length_cons,List.length_cons]
   omega
  rw [Array.eraseIdxIfInBounds,dif_pos (by rw [Array.size_setIfInBounds];omega),Array.toList_eraseIdx,Array.toList_setIfInBounds,hp]
  subst hi
  rw [List.set_append_right _ _ (Nat.le_refl _),Nat.sub_self,List.eraseIdx_append_of_length_le (by omega),show p1.length+1 - p1.length=1 by omega]
  rfl
 refine wpS_bind (wpS_get ?_)
 dsimp only
 rw [e1,e2]
 dsimp only
 refine wpS_bind (wp_set ?_)
 refine wpS_bind (aw (arr:=arrOf st) hx (by omega) fun t0 q0 x0 mP0 mR0=>?_)
 refine wpS_bind (dr (arr:=arrOf st) mP0 mR0 hB.kind hx (by omega) (by omega) s1 fun k h1 h2 h3=>?_)
 dsimp only
 have B1:TB a₀ (setPending st (((pendingOf st).setIfInBounds i (sa,na+nb,pw)).eraseIdxIfInBounds (i+1))):=⟨hB.perm,hB.kind,hB.failed⟩
 have g1:∀i,i < k→K (arrOf st) (sa+i)≤K (arrOf st) (sa+na):=fun i hi=>Fs.mp (h2 i hi)
 refine bg (fun z=>?_) (fun z=>?_)
 ·have z:na - k=0:=eq_of_beq z
  refine wpS_pure (h _ B1 e3 (fun _ _=>rfl) fun x y c1 c2 c3=>?_)
  show K (arrOf st) x≤K (arrOf st) y
  by_cases c4:y < sa+na
  ·exact s1 x y c1 c2 c4
  ·by_cases c5:x < sa+na
   ·have:=g1 (x - sa) (by omega)
    rw [show sa+(x - sa)=x by omega] at this
    exact Int.le_trans this (s2 _ y (by omega) (by omega) (by omega))
   ·exact s2 x y (by omega) c2 (by omega)
 rw [beq_iff_eq] at z
 refine wpS_bind (aw (arr:=arrOf st) hx (by omega) fun t1 q1 x1 mP1 mR1=>?_)
 refine wpS_bind (dr (arr:=arrOf st) mP1 mR1 hB.kind hx (by omega) (by omega) s2 fun n2 k1 k2 k3=>?_)
 dsimp only
 have elast:sa+k+(na - k) - 1=sa+na - 1:=by omega
 rw [elast] at k2 k3
 have g2:∀i,n2≤i→i < nb→K (arrOf st) (sa+na - 1)≤K (arrOf st) (sa+na+i):=fun i c1 c2=>mv.mp (k3 i c1 c2)
 refine bg (fun z2=>?_) (fun z2=>?_)
 ·have z2:n2=0:=eq_of_beq z2
  refine wpS_pure (h _ B1 e3 (fun _ _=>rfl) fun x y c1 c2 c3=>?_)
  show K (arrOf st) x≤K (arrOf st) y
  by_cases c4:y < sa+na
  ·exact s1 x y c1 c2 c4
  ·by_cases c5:x < sa+na
   ·have:=g2 (y - (sa+na)) (by omega) (by omega)
    rw [show sa+na+(y - (sa+na))=y by omega] at this
    exact Int.le_trans (s1 x _ (by omega) (by omega) (by omega)) this
   ·exact s2 x y (by omega) c2 (by omega)
 rw [beq_iff_eq] at z2
 have zx:((arrOf st).extract (sa+k) (sa+na)).size=na - k:=by rw [Array.size_extract];omega
 have zy:((arrOf st).extract (sa+na) (sa+na+n2)).size=n2:=by rw [Array.size_extract];omega
 have KX:∀m,m < na - k→K ((arrOf st).extract (sa+k) (sa+na)) m=K (arrOf st) (sa+k+m):=fun m hm=>Fp _ (by omega) (by omega)
 have KY:∀m,m < n2→K ((arrOf st).extract (sa+na) (sa+na+n2)) m=K (arrOf st) (sa+na+m):=fun m hm=>Fp _ (by omega) (by omega)
 have sx:Seg (arrOf st) (sa+k) (sa+na):=fun x y c1 c2 c3=>s1 x y (by omega) c2 c3
 have sy:Seg (arrOf st) (sa+na) (sa+na+n2):=fun x y c1 c2 c3=>s2 x y (by omega) c2 (by omega)
 have hf:K ((arrOf st).extract (sa+na) (sa+na+n2)) 0≤K ((arrOf st).extract (sa+k) (sa+na)) 0:=by
  rw [KX 0 (by omega),KY 0 (by omega)]
  exact Int.le_of_lt (x9.mp (h3 k (by omega) (by omega)))
 have hl:∀j,j < ((arrOf st).extract (sa+na) (sa+na+n2)).size→K ((arrOf st).extract (sa+na) (sa+na+n2)) j≤K ((arrOf st).extract (sa+k) (sa+na)) (((arrOf st).extract (sa+k) (sa+na)).size - 1):=fun j hj=>by
  rw [zy] at hj
  rw [zx,KX _ (by omega),KY j hj,show sa+k+(na - k - 1)=sa+na - 1 by omega]
  exact Int.le_of_lt (uw.mp (k2 j hj))
 have fin:∀M st',Lk (setPending st (((pendingOf st).setIfInBounds i (sa,na+nb,pw)).eraseIdxIfInBounds (i+1))) st'→Good ((arrOf st).extract (sa+k) (sa+na)) ((arrOf st).extract (sa+na) (sa+na+n2)) M→
   wpS (model prog w) A E s (do
    modify fun s=>setArr s (laid (sa+k) M.toList 0 (arrOf s))
    let x ←get
    pure (failedOf x).isNone:StateT SortSt Sem Bool) Q st':=fun M st' l g=>by
  obtain ⟨m1,m2,m3⟩:=G8 (by omega) hna hnb s1 s2 h1 k1 g1 g2 g
  refine wpS_bind (wpS_modify (wpS_bind (wpS_get ?_)))
  have ea:arrOf st'=arrOf st:=l.arr
  have ef:failedOf st'=none:=l.failed.trans hB.failed
  have er:(failedOf (setArr st' (laid (sa+k) M.toList 0 (arrOf st')))).isNone=true:=by
   show (failedOf st').isNone=true
   rw [ef]
   rfl
  rw [er]
  refine wpS_pure (h _ ⟨?_,l.kind.trans hB.kind,ef⟩ ?_ ?_ ?_)
  ·show (laid (sa+k) M.toList 0 (arrOf st')).Perm a₀
   rw [ea]
   exact m1.trans hB.perm
  ·show (pendingOf st').toList=_
   rw [l.pend]
   exact e3
  ·show ∀j,_→K (laid (sa+k) M.toList 0 (arrOf st')) j=_
   rw [ea]
   exact fun j hj=>m2 j (by omega)
  ·show Seg (laid (sa+k) M.toList 0 (arrOf st')) _ _
   rw [ea]
   exact m3
 refine bg (fun _=>wpS_bind ?_) (fun _=>wpS_bind ?_)
 ·exact Cd (a:=(arrOf st).extract (sa+k) (sa+na)) (b:=(arrOf st).extract (sa+na) (sa+na+n2)) hB.kind (qt hx _ _) (qt hx _ _) (by omega) (by omega) (qr (by omega) sx) (qr (by omega) sy) hf hl fun M st' l g=>fin M st' l g
 ·exact Cv (a:=(arrOf st).extract (sa+k) (sa+na)) (b:=(arrOf st).extract (sa+na) (sa+na+n2)) hB.kind (qt hx _ _) (qt hx _ _) (by omega) (by omega) (qr (by omega) sx) (qr (by omega) sy) hf hl fun M st' l g=>fin M st' l g
end
end ei
namespace ei
open PySem PyProof.Rows
variable [Rk]
def Runs (xs:Array Keyed):Nat→List (Nat×Nat×Nat)→Nat→Prop
 | lo,[],hi=>lo=hi
 | lo,t::r,hi=>t.1=lo∧1≤t.2.1∧Seg xs lo (lo+t.2.1)∧Runs xs (lo+t.2.1) r hi
theorem Runs.app {xs:Array Keyed} {hi:Nat} {q:List (Nat×Nat×Nat)}:∀{p:List (Nat×Nat×Nat)} {lo:Nat},Runs xs lo (p++q) hi↔∃m,Runs xs lo p m∧Runs xs m q hi
 | [],lo=>⟨fun h=>⟨lo,rfl,h⟩,fun ⟨m,h1,h2⟩=>by cases h1;exact h2⟩
 | t::p,lo=>by
  show (_∧_∧_∧Runs xs _ (p++q) hi)↔∃m,(_∧_∧_∧Runs xs _ p m)∧_
  rw [Runs.app (p:=p)]
  exact ⟨fun ⟨a,b,c,m,d,e⟩=>⟨m,⟨a,b,c,d⟩,e⟩,fun ⟨m,⟨a,b,c,d⟩,e⟩=>⟨a,b,c,m,d,e⟩⟩
theorem Runs.le {xs:Array Keyed} {hi:Nat}:∀{p:List (Nat×Nat×Nat)} {lo:Nat},Runs xs lo p hi→lo+p.length≤hi
 | [],lo,h=>by cases h;exact Nat.le_refl _
 | t::p,lo,⟨_,h1,_,h2⟩=>by
  have:=h2.le
  rw [List.length_cons]
  omega
theorem Runs.congr {xs ys:Array Keyed} {hi:Nat}:∀{p:List (Nat×Nat×Nat)} {lo:Nat},Runs xs lo p hi→(∀k,lo≤k→k < hi→K ys k=K xs k)→Runs ys lo p hi
 | [],lo,h,_=>h
 | t::p,lo,⟨h0,h1,h2,h3⟩,e=>⟨h0,h1,h2.congr fun k k1 k2=>e k k1 (by have:=h3.le;omega),h3.congr fun k k1 k2=>e k (by omega) k2⟩
theorem Runs.same {xs:Array Keyed} {hi:Nat}:∀{p q:List (Nat×Nat×Nat)} {lo:Nat},Runs xs lo p hi→q.map (fun t=>(t.1,t.2.1))=p.map (fun t=>(t.1,t.2.1))→Runs xs lo q hi
 | [],[],lo,h,_=>h
 | [],_::_,lo,h,e=>by cases e
 | _::_,[],lo,h,e=>by cases e
 | t::p,u::q,lo,⟨h0,h1,h2,h3⟩,e=>by
  rw [List.map_cons,List.map_cons,List.cons.injEq,Prod.mk.injEq] at e
  obtain ⟨⟨e1,e2⟩,e3⟩:=e
  refine ⟨e1.trans h0,by omega,by rw [e2];exact h2,?_⟩
  rw [e2]
  exact h3.same e3
section
variable {prog:Program} {w:World} {A:Around} {E:Value→Shared→Prop} {s:Shared} {a₀:Array Keyed} [LtR prog w A E s]
theorem pq {st:SortSt} {i hi:Nat} {Q:Bool→SortSt→Prop} (h0:IntKeys a₀) (hB:TB a₀ st) (hr:Runs (arrOf st) 0 (pendingOf st).toList hi) (hhi:hi≤a₀.size) (hi2:i+1 < (pendingOf st).size)
  (h:∀st',TB a₀ st'→(pendingOf st').size+1=(pendingOf st).size→Runs (arrOf st') 0 (pendingOf st').toList hi→(∀j,hi≤j→K (arrOf st') j=K (arrOf st) j)→Q true st'):wpS (model prog w) A E s (mergeAt' i) Q st:=by
 have hl:(pendingOf st).toList.length=(pendingOf st).size:=Array.length_toList
 obtain ⟨⟨sa,na,pw⟩,⟨sb,nb,q⟩,p1,p2,e1,el,el2⟩:∃t u p1 p2,(pendingOf st).toList=p1++t::u::p2∧p1.length=i∧p2.length+i+2=(pendingOf st).size:=by
  refine ⟨(pendingOf st).toList[i],(pendingOf st).toList[i+1],(pendingOf st).toList.take i,(pendingOf st).toList.drop (i+2),?_,by rw [List.length_take];omega,by rw [List.length_drop];omega⟩
  conv=>lhs;rw [←List.take_append_drop i (pendingOf st).toList,List.drop_eq_getElem_cons (by omega),List.drop_eq_getElem_cons (by omega)]
 have hr2:=hr
 rw [e1,Runs.app] at hr2
 obtain ⟨m,r1,⟨q0,q1,q2,t0,t1,t2,r2⟩⟩:=hr2
 dsimp only at q0 q1 q2 t0 t1 t2 r2
 have ll:=r2.le
 subst q0 t0
 refine Dm h0 hB e1 el rfl q1 t1 (by omega) q2 t2 fun st' B' p' k' s'=>?_
 refine h st' B' ?_ ?_ fun j hj=>k' j (by omega)
 ·have:=congrArg List.length p'
  rw [List.length_append,el,List.length_cons,Array.length_toList] at this
  omega
 ·rw [p',Runs.app]
  have r1':=r1.congr (ys:=arrOf st') fun k _ hk=>k' k (.inl hk)
  refine ⟨_,r1',rfl,by show 1≤_+_;omega,s',?_⟩
  have:=r2.congr (ys:=arrOf st') fun k hk1 hk2=>k' k (.inr (by omega))
  rwa [Nat.add_assoc] at this
theorem TB.setP {st:SortSt} {p:Array (Nat×Nat×Nat)} (h:TB a₀ st):TB a₀ (setPending st p):=⟨h.perm,h.kind,h.failed⟩
theorem ite_le (c:Prop) [Decidable c] (n:Nat):(if c then n - 1 else n)≤n:=by split <;> omega
theorem j9 {xs:Array Keyed} {p:Array (Nat×Nat×Nat)} {lo n:Nat} (r:Runs xs 0 p.toList lo) (h:1≤n) (s:Seg xs lo (lo+n)):Runs xs 0 (p.push (lo,n,0)).toList (lo+n):=by
 rw [Array.toList_push,Runs.app]
 exact ⟨lo,r,rfl,h,s,rfl⟩
theorem qb {xs:Array Keyed} {p:Array (Nat×Nat×Nat)} {lo i pw:Nat} (r:Runs xs 0 p.toList lo):Runs xs 0 (p.modify i fun x=>(x.fst,x.2.fst,pw)).toList lo:=by
 refine r.same ?_
 apply List.ext_getElem?
 intro j
 rw [List.getElem?_map,List.getElem?_map,Array.getElem?_toList,Array.getElem?_modify,Array.getElem?_toList]
 split
 ·cases p[j]? <;> rfl
 ·rfl
theorem Ad {st:SortSt} {Q:Unit→SortSt→Prop} (h0:IntKeys a₀) (hB:TB a₀ st) (hp:pendingOf st=#[])
  (h:∀st',(arrOf st').Perm a₀→failedOf st'=none→SortedTo (arrOf st') a₀.size→Q () st'):wpS (model prog w) A E s sortRuns' Q st:=by
 rw [sortRuns'_eq]
 refine wpS_bind (wpS_get ?_)
 dsimp only
 rw [hB.size]
 refine wpS_bind (wpS_mono (wpS_forRange
  (I:=fun x c st'=>∃lo,c=(none,lo)∧TB a₀ st'∧Runs (arrOf st') 0 (pendingOf st').toList lo∧lo≤a₀.size∧min x a₀.size≤lo)
  (Q:=fun c st'=>c=(none,a₀.size)∧TB a₀ st'∧Runs (arrOf st') 0 (pendingOf st').toList a₀.size) ?step ?fin ⟨0,rfl,hB,by rw [hp];exact rfl,by omega,by omega⟩) ?post)
 case fin=>
  rintro c st' ⟨lo,rfl,B,r,h1,h2⟩
  obtain rfl:lo=a₀.size:=by omega
  exact ⟨rfl,B,r⟩
 case post=>
  rintro c st1 ⟨rfl,B,r⟩
  refine wpS_bind (wpS_mono (wpS_forRange (I:=fun x c st'=>c=(none,())∧TB a₀ st'∧Runs (arrOf st') 0 (pendingOf st').toList a₀.size∧(pendingOf st').size+x≤a₀.size)
   (Q:=fun c st'=>c=(none,())∧TB a₀ st'∧Runs (arrOf st') 0 (pendingOf st').toList a₀.size∧(pendingOf st').size≤1) ?step2 ?fin2 ?init2) ?post2)
  case init2=>
   have:=r.le
   rw [Array.length_toList] at this
   exact ⟨rfl,B,r,by omega⟩
  case fin2=>
   rintro c st' ⟨rfl,B,r,h1⟩
   exact ⟨rfl,B,r,by omega⟩
  case step2=>
   rintro x c st' _ hx ⟨rfl,B,r,h1⟩
   refine wpS_bind (wpS_get ?_)
   refine bg (fun z=>?_) (fun z=>?_)
   ·exact wpS_pure ⟨rfl,B,r,z⟩
   ·refine wpS_bind (pq h0 B r (Nat.le_refl _) (Nat.lt_of_le_of_lt (Nat.succ_le_succ (ite_le _ _)) (by omega)) fun st2 B2 p2 r2 _=>?_)
    rw [if_neg (by decide)]
    exact wpS_pure ⟨rfl,B2,r2,by omega⟩
  case post2=>
   rintro c st' ⟨rfl,B,r,h1⟩
   refine wpS_pure (h _ B.perm B.failed fun i j hij hj=>?_)
   have hl:(pendingOf st').toList.length=(pendingOf st').size:=Array.length_toList
   generalize (pendingOf st').toList=p at r hl
   cases p with
   | nil=>exact absurd (show 0=a₀.size from r) (by omega)
   | cons t p=>
    cases p with
    | nil=>
     obtain ⟨_,_,sg,e⟩:=r
     exact sg i j (by omega) hij (by rw [show 0+t.2.1=a₀.size from e];exact hj)
    | cons u p=>rw [List.length_cons,List.length_cons] at hl;omega
 case step=>
  rintro x c st1 _ hx ⟨lo,rfl,B1,r1,hlo,hxlo⟩
  dsimp only
  refine bg (fun z=>?_) (fun z=>?_)
  ·obtain rfl:lo=a₀.size:=by omega
   exact wpS_pure ⟨rfl,B1,r1⟩
  refine wpS_bind (Lu h0 (by omega) (by omega) B1 fun n st2 B2 k2 n1 n2 s2=>?_)
  dsimp only
  have r2:Runs (arrOf st2) 0 (pendingOf st2).toList lo:=by
   rw [k2.pend]
   exact r1.congr fun k _ hk=>k2.low k hk
  refine bg (fun z2=>?_) (fun z2=>?_)
  ·refine wpS_bind (wpS_lift (wpAny_rule ⟨rfl,?_⟩))
   have m1:n≤min (a₀.size - lo) (minRun' a₀.size a₀.size 0):=by omega
   have m2:min (a₀.size - lo) (minRun' a₀.size a₀.size 0)≤a₀.size - lo:=by omega
   generalize min (a₀.size - lo) (minRun' a₀.size a₀.size 0)=m at m1 m2 ⊢
   refine wpS_bind (G3 h0 (by omega) m1 n1 B2 s2 fun st3 B3 k3 s3=>?_)
   have r3:Runs (arrOf st3) 0 (pendingOf st3).toList lo:=by
    rw [k3.pend]
    exact r2.congr fun k _ hk=>k3.low k hk
   clear r2 s2 B2 k2 k3
   have n1:1≤m:=by omega
   rw [if_neg (by decide)]
   refine wpS_bind (wpS_get ?_)
   cases hb:(pendingOf st3).back? with
   | none=>
    dsimp only
    exact wpS_bind (wpS_modify (wpS_pure ⟨lo+m,rfl,TB.setP B3,j9 r3 n1 s3,by omega,by omega⟩))
   | some t=>
    obtain ⟨s1,n1',pw0⟩:=t
    dsimp only
    refine wpS_bind (wpS_mono (wpS_forRange (I:=fun _ c st'=>c=(none,())∧TB a₀ st'∧Runs (arrOf st') 0 (pendingOf st').toList lo∧Seg (arrOf st') lo (lo+m))
     (Q:=fun c st'=>c=(none,())∧TB a₀ st'∧Runs (arrOf st') 0 (pendingOf st').toList lo∧Seg (arrOf st') lo (lo+m)) ?_ (fun _ _ hh=>hh) ⟨rfl,B3,r3,s3⟩) ?_)
    ·rintro y c st3 _ _ ⟨rfl,B3,r3,s3⟩
     refine wpS_bind (wpS_get ?_)
     by_cases hz:(pendingOf st3).size > 1
     ·obtain ⟨⟨o1,o2,o3⟩,ho⟩:∃t,(pendingOf st3)[(pendingOf st3).size - 2]?=some t:=⟨_,getElem?_pos _ _ (by omega)⟩
      rw [if_pos hz,ho]
      dsimp only
      refine bg (fun _=>wpS_pure ⟨rfl,B3,r3,s3⟩) (fun _=>?_)
      refine wpS_bind (pq h0 B3 r3 hlo (by omega) fun st4 B4 _ r4 k4=>?_)
      rw [if_neg (by decide)]
      exact wpS_pure ⟨rfl,B4,r4,s3.congr fun k hk _=>k4 k hk⟩
     ·rw [if_neg hz]
      exact wpS_pure ⟨rfl,B3,r3,s3⟩
    ·rintro c st3 ⟨rfl,B3,r3,s3⟩
     dsimp only
     exact wpS_bind (wpS_modify (wpS_bind (wpS_modify (wpS_pure ⟨lo+m,rfl,TB.setP (TB.setP B3),j9 (qb r3) n1 s3,by omega,by omega⟩))))
  ·refine wpS_bind (wpS_get ?_)
   cases hb:(pendingOf st2).back? with
   | none=>
    dsimp only
    exact wpS_bind (wpS_modify (wpS_pure ⟨lo+n,rfl,TB.setP B2,j9 r2 n1 s2,by omega,by omega⟩))
   | some t=>
    obtain ⟨s1,n1',pw0⟩:=t
    dsimp only
    refine wpS_bind (wpS_mono (wpS_forRange (I:=fun _ c st'=>c=(none,())∧TB a₀ st'∧Runs (arrOf st') 0 (pendingOf st').toList lo∧Seg (arrOf st') lo (lo+n))
     (Q:=fun c st'=>c=(none,())∧TB a₀ st'∧Runs (arrOf st') 0 (pendingOf st').toList lo∧Seg (arrOf st') lo (lo+n)) ?_ (fun _ _ hh=>hh) ⟨rfl,B2,r2,s2⟩) ?_)
    ·rintro y c st3 _ _ ⟨rfl,B3,r3,s3⟩
     refine wpS_bind (wpS_get ?_)
     by_cases hz:(pendingOf st3).size > 1
     ·obtain ⟨⟨o1,o2,o3⟩,ho⟩:∃t,(pendingOf st3)[(pendingOf st3).size - 2]?=some t:=⟨_,getElem?_pos _ _ (by omega)⟩
      rw [if_pos hz,ho]
      dsimp only
      refine bg (fun _=>wpS_pure ⟨rfl,B3,r3,s3⟩) (fun _=>?_)
      refine wpS_bind (pq h0 B3 r3 hlo (by omega) fun st4 B4 _ r4 k4=>?_)
      rw [if_neg (by decide)]
      exact wpS_pure ⟨rfl,B4,r4,s3.congr fun k hk _=>k4 k hk⟩
     ·rw [if_neg hz]
      exact wpS_pure ⟨rfl,B3,r3,s3⟩
    ·rintro c st3 ⟨rfl,B3,r3,s3⟩
     dsimp only
     exact wpS_bind (wpS_modify (wpS_bind (wpS_modify (wpS_pure ⟨lo+n,rfl,TB.setP (TB.setP B3),j9 (qb r3) n1 s3,by omega,by omega⟩))))
end
end ei
namespace L2.Srt
open PySem PySem.W PyProof.Rows
theorem Gi {α β:Type} {f:α→β} {l m:List β} (h:l.Perm m):∀r:List α,m=r.map f→∃is:List α,is.Perm r∧l=is.map f:=by
 induction h with
 | nil=>
  intro r e
  cases r with
  | nil=>exact ⟨[],.refl _,rfl⟩
  | cons a r=>cases e
 | cons x p ih=>
  intro r e
  cases r with
  | nil=>cases e
  | cons a r=>
   rw [List.map_cons] at e
   injection e with e1 e2
   obtain ⟨is,p1,rfl⟩:=ih r e2
   exact ⟨a::is,p1.cons a,by rw [e1];rfl⟩
 | swap x y l=>
  intro r e
  match r,e with
  | a::b::r,e=>
   rw [List.map_cons,List.map_cons] at e
   injection e with e1 e2
   injection e2 with e2 e3
   exact ⟨b::a::r,List.Perm.swap a b r,by rw [e1,e2,e3];rfl⟩
 | trans p q ih1 ih2=>
  intro r e
  obtain ⟨js,p1,e1⟩:=ih2 r e
  obtain ⟨is,p2,e2⟩:=ih1 js e1
  exact ⟨is,p2.trans p1,e2⟩
open Classical in
noncomputable def rho (vs:List Value) (r:Nat→Int) (x:Value):Int:=if h:∃i,i < vs.length∧vs.getD i Value.none=x then r (Classical.choose h) else 0
theorem Ck {vs:List Value} {r:Nat→Int} (hr:∀i j,i < vs.length→j < vs.length→vs.getD i Value.none=vs.getD j Value.none→r i=r j) {i:Nat} (hi:i < vs.length):rho vs r (vs.getD i Value.none)=r i:=by
 have h:∃j,j < vs.length∧vs.getD j Value.none=vs.getD i Value.none:=⟨i,hi,rfl⟩
 unfold rho
 rw [dif_pos h]
 exact hr _ _ (Classical.choose_spec h).1 hi (Classical.choose_spec h).2
@[reducible] noncomputable def rkOf (vs:List Value) (r:Nat→Int) (κ:SortKind):ei.Rk:=⟨rho vs r,fun x=>∃i,i < vs.length∧vs.getD i Value.none=x,κ⟩
theorem ltR_of {prog:Program} {w:World} {A:Around} {E:Value→Shared→Prop} {s:Shared} {vs:List Value} {r:Nat→Int} {κ:SortKind} (hr:∀i j,i < vs.length→j < vs.length→vs.getD i Value.none=vs.getD j Value.none→r i=r j)
  (hc:Cmp (kas_ask prog w A κ vs) vs.length r s):@ei.LtR (rkOf vs r κ) prog w A E s:=by
 letI:=rkOf vs r κ
 refine ⟨fun st x y p q Q hx hy hk h=>?_⟩
 obtain ⟨i,hi,rfl⟩:=hx
 obtain ⟨j,hj,rfl⟩:=hy
 rw [lt'_eq]
 refine wpS_bind (wpS_get ?_)
 rw [hk]
 refine wpS_bind (wpS_lift (wpAny_attempt ?_))
 have e1:(ei.Rk.ρ (vs.getD i Value.none):Int)=r i:=Ck hr hi
 have e2:(ei.Rk.ρ (vs.getD j Value.none):Int)=r j:=Ck hr hj
 rw [e1,e2] at h
 have g:=hc i j (fun b s'=>s'=s∧b=decide (r i < r j)) hi hj ⟨rfl,rfl⟩
 refine wpAny_mono g (fun b s' z=>?_) fun _ _ z=>z.elim
 obtain ⟨rfl,rfl⟩:=z
 exact ⟨rfl,wpS_pure h⟩
section
variable {prog:Program} {w:World} {A:Around} {E:Value→Shared→Prop} {s:Shared} {r:Nat→Int}
theorem vg {a:Addr} {vs:List Value} {n:Nat} {P:PySem.Fin→Shared→Prop} (ho:s.heap.get? a=some (seqObj "list" vs.toArray n)) (hz:vs.length≤sizeLine)
  (hr:∀i j,i < vs.length→j < vs.length→vs.getD i Value.none=vs.getD j Value.none→r i=r j)
  (ask:2≤vs.length→wpAny (model prog w) A (keyKind' vs.toArray) (fun κ s'=>s'={ s with heap:=cx s.heap a vs }∧Cmp (kas_ask prog w A κ vs) vs.length r { s with heap:=cx s.heap a vs }) (fun _ _=>False) { s with heap:=cx s.heap a vs })
  (h:∀is:List Nat,is.Perm (List.range vs.length)→(∀i j,i≤j→j < vs.length→r (is.getD i 0)≤r (is.getD j 0))→P (.done (.ret .none)) { s with heap:=sortedHeap s.heap a vs (List.toArray (is.map fun i=>vs.getD i Value.none)) }):
  wpAny (model prog w) A (Builtin.«list.sort» ⟨[.ref a],[]⟩) P E s:=by
 rw [list_sort_plain]
 have ha:a < s.heap.objs.size:=Heap.lt_size ho
 refine wpAny_bind (listItems_at ho rfl ?_)
 refine wpAny_bind (listUpdate_at ho rfl ?_ (by rw [List.size_toArray];exact hz) (Nat.zero_le _))
 obtain ⟨e1,ho1⟩:∃e1,(s.heap.update a (Obj.mapSeq fun _=>#[])).get? a=some (seqObj "list" #[] e1):=⟨_,get?_update_seq ho (fun _=>#[])⟩
 refine wpAny_bind (seqEpoch_at ho1 rfl ?_)
 refine wpAny_bind (wpAny_newTuple ?_ hz)
 refine wpAny_bind (wpAny_newList ?_ (Nat.zero_le _))
 refine wpAny_holding ?_
 have ho6:(cx s.heap a vs).get? a=some (seqObj "list" #[] e1):=by
  unfold cx
  rw [Heap.get?_push_ne _ _ _ (by rw [size_push',Heap.size_update];exact Nat.ne_of_lt (Nat.lt_succ_of_lt ha)),Heap.get?_push_ne _ _ _ (by rw [Heap.size_update];exact Nat.ne_of_lt ha)]
  exact ho1
 show wpAny (model prog w) A _ P E { s with heap:=cx s.heap a vs }
 dsimp only
 have big:∀u:SortSt,(arrOf u).Perm (pairsOf vs)→((arrOf u).map (·.2)).size≤sizeLine:=fun u pu=>by
  rw [Array.size_map,pu.size_eq,pairsOf_size]
  exact hz
 have er:vs=(List.range vs.length).map fun i=>vs.getD i Value.none:=by
  refine List.ext_getElem (by rw [List.length_map,List.length_range]) fun i h1 h2=>?_
  rw [List.getElem_map,List.getElem_range,List.getD_eq_getElem?_getD,List.getElem?_eq_getElem h1]
  rfl
 have ends:∀(κ:SortKind) (u:SortSt),(arrOf u).Perm (pairsOf vs)→@ei.SortedTo (rkOf vs r κ) (arrOf u) (pairsOf vs).size→P (.done (.ret .none)) { s with heap:=sortedHeap s.heap a vs ((arrOf u).map (·.2)) }:=fun κ u pu su=>by
  have hl:(arrOf u).toList.Perm (vs.zip vs):=by rw [←pairsOf_toList];exact Array.perm_iff_toList_perm.mp pu
  have two:∀q∈(arrOf u).toList,q.1=q.2:=fun q hq=>by
   have hm:=hl.mem_iff.mp hq
   obtain ⟨i,hi,e⟩:=List.mem_iff_getElem.mp hm
   rw [List.getElem_zip] at e
   rw [←e]
  have h2:((arrOf u).toList.map (·.2)).Perm vs:=by
   have:=hl.map (·.2)
   rw [List.map_snd_zip (Nat.le_refl _)] at this
   exact this
  obtain ⟨is,p1,e⟩:=Gi h2 (List.range vs.length) er
  have hlen:is.length=vs.length:=by rw [p1.length_eq,List.length_range]
  have key:∀i,i < vs.length→@ei.K (rkOf vs r κ) (arrOf u) i=r (is.getD i 0):=fun i hi=>by
   have hs:i < (arrOf u).size:=by rw [pu.size_eq,pairsOf_size];exact hi
   have e1:(arrOf u)[i]?=some (arrOf u)[i]:=getElem?_pos _ i hs
   have hi2:i < is.length:=by omega
   have e2:(arrOf u)[i].2=vs.getD (is.getD i 0) Value.none:=by
    have:=congrArg (fun l=>l[i]?) e
    simp only [List.getElem?_map,Array.getElem?_toList,e1,List.getElem?_eq_getElem hi2,Option.map_some,Option.some.injEq] at this
    rw [this,List.getD_eq_getElem?_getD (l:=is),List.getElem?_eq_getElem hi2]
    rfl
   have hin:is.getD i 0 < vs.length:=by
    have:is[i]∈List.range vs.length:=p1.mem_iff.mp (List.getElem_mem hi2)
    rw [List.getD_eq_getElem?_getD,List.getElem?_eq_getElem hi2]
    exact List.mem_range.mp this
   unfold ei.K
   rw [e1]
   show rho vs r (arrOf u)[i].1=_
   rw [two _ (Array.mem_toList_iff.mpr (Array.getElem_mem hs)),e2]
   exact Ck hr hin
  have eo:(arrOf u).map (·.2)=List.toArray (is.map fun i=>vs.getD i Value.none):=by
   apply Array.toList_inj.mp
   rw [Array.toList_map,e]
  rw [eo]
  refine h is p1 fun i j hij hj=>?_
  rw [←key i (by omega),←key j hj]
  exact su i j hij (by rw [pairsOf_size];exact hj)
 by_cases h2:vs.toArray.size < 2
 ·rw [if_pos h2,if_pos h2]
  refine wpAny_bind (wpAny_pure ?_)
  rw [StateT.run_pure]
  refine wpAny_bind (wpAny_pure ?_)
  dsimp only
  have p0:(arrOf (SortSt.mk' general' (vs.toArray.zip vs.toArray) #[] 7 none)).Perm (pairsOf vs):=Array.Perm.refl _
  refine wpAny_bind (seqEpoch_at ho6 rfl ?_)
  refine wpAny_bind (listUpdate_at ho6 rfl ?_ (Nat.zero_le _) (Nat.le_trans (big _ p0) (by omega)))
  simp only [bne_self_eq_false,Bool.false_eq_true,if_false]
  refine wpAny_pure (ends general' _ p0 fun i j hij hj=>?_)
  rw [pairsOf_size] at hj
  rw [List.size_toArray] at h2
  have:i=j:=by omega
  subst this
  exact Int.le_refl _
 ·rw [if_neg h2,if_neg h2]
  rw [List.size_toArray] at h2
  refine wpAny_bind (wpAny_mono (ask (by omega)) (fun κ s0 hk=>?_) fun _ _ x=>x.elim)
  obtain ⟨rfl,hc⟩:=hk
  letI:=rkOf vs r κ
  haveI:ei.LtR prog w A E { s with heap:=cx s.heap a vs }:=ltR_of hr hc
  have keys:ei.IntKeys (pairsOf vs):=fun q hq=>by
   rw [pairsOf_toList] at hq
   obtain ⟨i,hi,e⟩:=List.mem_iff_getElem.mp hq
   rw [List.getElem_zip] at e
   have hi':i < vs.length:=by rw [List.length_zip] at hi;omega
   refine ⟨i,hi',?_⟩
   rw [←e,List.getD_eq_getElem?_getD,List.getElem?_eq_getElem hi']
   rfl
  refine wpAny_bind (wpAny_mono (ei.Ad (a₀:=pairsOf vs) (st:=SortSt.mk' κ (vs.toArray.zip vs.toArray) #[] 7 none)
   (Q:=fun _ u=>(arrOf u).Perm (pairsOf vs)∧failedOf u=none∧ei.SortedTo (arrOf u) (pairsOf vs).size) keys ⟨Array.Perm.refl _,rfl,rfl⟩ rfl fun u b1 b2 b3=>⟨b1,b2,b3⟩) ?_ fun _ _ e=>e)
  rintro ⟨⟨⟩,u⟩ s' ⟨rfl,pu,fu,su⟩
  dsimp only
  refine wpAny_bind (seqEpoch_at ho6 rfl ?_)
  refine wpAny_bind (listUpdate_at ho6 rfl ?_ (Nat.zero_le _) (Nat.le_trans (big _ pu) (by omega)))
  rw [fu]
  simp only [bne_self_eq_false,Bool.false_eq_true,if_false]
  exact wpAny_pure (ends κ u pu su)
theorem M0 {l:Addr} {vs:List Value} {Q:Value→Shared→Prop} (hl:s.heap.IsList l vs.toArray∨s.heap.IsTuple l vs.toArray) (sz:vs.length≤sizeLine)
  (hr:∀i j,i < vs.length→j < vs.length→vs.getD i Value.none=vs.getD j Value.none→r i=r j)
  (ask:2≤vs.length→wpAny (model prog w) A.in1.in1 (keyKind' vs.toArray) (fun κ s'=>s'={ s with heap:=cx (dq s.heap vs) (s.heap.objs.size+1) vs }∧Cmp (kas_ask prog w A.in1.in1 κ vs) vs.length r { s with heap:=cx (dq s.heap vs) (s.heap.objs.size+1) vs }) (fun _ _=>False) { s with heap:=cx (dq s.heap vs) (s.heap.objs.size+1) vs })
  (h:∀is:List Nat,is.Perm (List.range vs.length)→(∀i j,i≤j→j < vs.length→r (is.getD i 0)≤r (is.getD j 0))→Q (.ref (s.heap.objs.size+1)) { s with heap:=sortedAll s.heap vs (List.toArray (is.map fun i=>vs.getD i Value.none)) }):
  wpAny (model prog w) A (call (.builtin "sorted") [.ref l]) Q E s:=by
 refine Calls.call_function_entry kind_sorted plain_sorted entry_sorted (args_sorted1 _) ?_
 unfold Builtin.«sorted»
 refine wpAny_bind (m:=checkCount "sorted" 1 1 _) (wpAny_pure ?_)
 have go:∀{Q':List Value→Shared→Prop},Q' vs { s with heap:=(s.heap.push (seqObj "list" #[] 0)).update s.heap.objs.size (Obj.mapSeq (·++vs.toArray)) }→wpAny (model prog w) A.in1 (collect (.ref l)) Q' E s:=fun {Q'} q=>by
  rcases hl with hl | hl
  ·exact collect_list hl q sz
  ·exact Bg hl q sz
 refine wpAny_bind (go ?_)
 refine wpAny_bind (wpAny_newList ?_ sz)
 have hsz:((s.heap.push (seqObj "list" #[] 0)).update s.heap.objs.size (Obj.mapSeq (·++vs.toArray))).objs.size=s.heap.objs.size+1:=by
  rw [Heap.size_update,size_push']
 have hoL:(dq s.heap vs).get? (s.heap.objs.size+1)=some (seqObj "list" vs.toArray 0):=by
  unfold dq
  rw [←hsz];exact Heap.get?_push_size _ rfl
 show wpAny _ _ _ _ _ { s with heap:=dq s.heap vs }
 rw [hsz]
 refine wpAny_bind (wpAny_holding (wpAny_call_entry slot_list_sort ⟨_,hoL,rfl⟩ entry_list_sort (vg (s:={ s with heap:=dq s.heap vs }) hoL sz hr ask fun p hp hi=>⟨_,rfl,?_⟩) (args_list_sort _)))
 exact wpAny_pure ⟨_,rfl,h p hp hi⟩
end
end L2.Srt
namespace L2
open PySem PySem.Spec PyProof.Rows Srt
section
variable {X:Cx}
theorem yb:gj X (.builtin "sorted") (fun xs H Q=>∃p ys rk,xs=[.ref p]∧(SqL X.K H p ys∨SqT X.K H p ys)∧ys.length≤100000∧Ords X.prog X.w X.A.in1.in1 H ys rk∧(∀i j,i < ys.length→j < ys.length→ys.getD i .non=ys.getD j .non→rk i=rk j)∧
  ∀(l:Addr) (is:List Nat),is.Perm (List.range ys.length)→(∀i j,i≤j→j < ys.length→rk (is.getD i 0)≤rk (is.getD j 0))→H l=none→Q (.ref l) (upd H l (.lst (is.map fun i=>ys.getD i .non)))):=by
 intro pins s σ H xs us Q I r h
 obtain ⟨p,ys,rk,rfl,hq,h64,ho,hal,q⟩:=h
 obtain ⟨u,rfl,rx⟩:=vals1 r
 cases rx
 have sz:=sizeLine_eq
 obtain ⟨its,r',hl⟩:∃its,Vals ys its∧(s.heap.IsList p its.toArray∨s.heap.IsTuple p its.toArray):=by
  rcases hq with hq | hq
  ·obtain ⟨its,r',pl,_⟩:=I.list hq
   exact ⟨its,r',.inl pl.isList⟩
  ·obtain ⟨its,r',pl,_⟩:=I.tuple hq
   exact ⟨its,r',.inr pl⟩
 have hlen:=r'.length
 have at':∀i,i < ys.length→RelV (ys.getD i .non) (its.getD i Value.none):=fun i hi=>by
  obtain ⟨u,hu,ru⟩:=r'.get (List.getElem?_eq_getElem hi)
  rw [List.getD_eq_getElem?_getD,List.getElem?_eq_getElem hi,List.getD_eq_getElem?_getD,hu]
  exact ru
 refine M0 (r:=rk) hl (by omega) (fun i j hi hj e=>?_) (fun h2=>?_) fun is hp hi=>?_
 ·have h1:=at' i (by omega)
  have h2:=at' j (by omega)
  rw [e] at h1
  exact hal i j (by omega) (by omega) (h1.inj h2)
 ·exact ho { s with heap:=cx (dq s.heap its) (s.heap.objs.size+1) its } its (I.hok.kept fun b o e=>Mg e) r' h2
 ·obtain ⟨e,he⟩:=sortedAll_at s.heap its (List.toArray (is.map fun i=>its.getD i Value.none))
  have hp':is.Perm (List.range ys.length):=by rw [hlen];exact hp
  have hin:∀i∈is,i < ys.length:=fun i hi=>List.mem_range.mp (hp'.mem_iff.mp hi)
  have hz:(is.map fun i=>ys.getD i V.non).length≤sizeLine:=by
   rw [List.length_map,hp'.length_eq,List.length_range]
   omega
  exact ⟨.ref (s.heap.objs.size+1),_,I.laid (t':=s.toks) (fun b o e=>sortedAll_old e) (Nat.le_succ _) (show bp X.prog X.w _ _ _ (.lst (is.map fun i=>ys.getD i V.non)) from ⟨hz,_,e,pb r' _ hin,he⟩),rfl,q _ _ hp' (fun i j hij hj=>hi i j hij (by omega)) (I.hok.fresh (Nat.le_succ _))⟩
end
end L2
namespace L2.Srt
open PySem PySem.W PyProof.Rows PySem.Spec Itm
section
variable {prog:Program} {w:World} {A:Around} {E:Value→Shared→Prop} {s:Shared} {d:Addr} {es:Array DictEntry} {ep:Nat} {o:Obj}
theorem Raw.at' {h h':Heap} (r:Raw h d es ep o) (k:∀o,h.get? d=some o→h'.get? d=some o):Raw h' d es ep o:=⟨k _ r.there,r.exact',r.data⟩
theorem Gb (hh:A.handled=none) (I:Addr) (hne:d≠I) (hd:(d==sysModules)=false):
  Walks prog w A I [I,d] [I] es.size (fun i v=>∃e,es[i]?=some e∧v=e.key) (fun i h=>h.IsKeyIter I d i es.size ep∧Raw h d es ep o) where
 sub:=fun b hb=>by simp at hb;simp [hb]
 frame:=fun i h h' st hk=>by
  obtain ⟨⟨oi,ho,hc,hf⟩,r⟩:=st
  exact ⟨⟨oi,hk I (by simp) _ ho,hc,hf⟩,Raw.at' r fun o e=>hk d (by simp) o e⟩
 item:=fun i s Q E hi st hQ=>by
  obtain ⟨hit,r⟩:=st
  refine xt hit r (Array.getElem?_eq_getElem hi) fun h' st' sb=>?_
  exact hQ _ h' s.toks ⟨_,Array.getElem?_eq_getElem hi,rfl⟩ ⟨st',Raw.at' r fun o e=>(sb.2 d hne).trans e⟩ fun b o hb e=>(sb.2 b (fun z=>hb (by rw [z];exact List.mem_singleton.mpr rfl))).trans e
 done:=fun s Q E st hQ=>by
  obtain ⟨hit,r⟩:=st
  refine Be hh hit r (Nat.le_refl _) fun h' eb=>hQ h' s.toks fun b o hb e=>eb b o (fun z=>hb (by rw [z];exact List.mem_singleton.mpr rfl)) e
 self:=fun i s Q E st h=>wpAny_pyIter_keyiter st.1 h
theorem M4 (hd:(d==sysModules)=false):KdlSrc prog w "dict" d d es.size (fun i v=>∃e,es[i]?=some e∧v=e.key) (fun h=>Raw h d es ep o) where
 type:=fun _ r=>Raw.typeIs r
 there:=fun _ r=>⟨Heap.lt_size r.there,Heap.lt_size r.there⟩
 keep:=fun _ _ r hk=>Raw.at' r fun o e=>hk d (.inl rfl) o e
 notList:=by decide
 notTuple:=by decide
 hint:=fun _ _ _ _ r hq=>kdl_hint_dict (Raw.typeIs r) hq
 iter:=fun _ _ hh r=>⟨_,_,(fun _ _ hq=>xv hd r hq),Gb hh _ (Nat.ne_of_lt (Heap.lt_size r.there)) hd,⟨⟨_,Heap.get?_push_size _ rfl,rfl,rfl⟩,Raw.at' r fun o e=>Heap.get?_push_of_some _ e⟩⟩
theorem As {Q:List Value→Shared→Prop} (hd:(d==sysModules)=false) (r:Raw s.heap d es ep o) (hh:A.handled=none) (hsz:es.size≤sizeLine)
  (h:∀h' tk (acc:Array Value),(∀b o,s.heap.get? b=some o→h'.get? b=some o)→s.heap.objs.size < h'.objs.size→ItemsOf (fun i v=>∃e,es[i]?=some e∧v=e.key) acc es.size→Q acc.toList { s with heap:=h',toks:=tk }):
  wpAny (model prog w) A (collect (.ref d)) Q E s:=by
 have hdl:d < s.heap.objs.size:=Heap.lt_size r.there
 have pl:plainId "list.__iadd__"=true:=by decide+kernel
 have key:∀R:Result→Shared→Prop,(∀h' tk (acc:Array Value) c,(∀b o,b≠s.heap.objs.size→(s.heap.push (seqObj "list" #[] 0)).get? b=some o→h'.get? b=some o)→h'.get? s.heap.objs.size=some { cls:=.type "list",dict:=none,data:=.seq acc c,slots:=#[] }→
   ItemsOf (fun i v=>∃e,es[i]?=some e∧v=e.key) acc es.size→R (.ok (.ret (.ref s.heap.objs.size))) { s with heap:=h',toks:=tk })→
   codeAny (model prog w) A (.builtin "list.__iadd__" ⟨[.ref s.heap.objs.size,.ref d],[]⟩) R { s with heap:=s.heap.push (seqObj "list" #[] 0) }:=by
  intro R hR
  refine codeAny_builtin entry_list_iadd' ?_
  rw [Around.under_plainId pl _]
  exact kdl_extend (s:={ s with heap:=s.heap.push (seqObj "list" #[] 0) }) (M4 hd) hh (Raw.at' r fun o e=>Heap.get?_push_of_some _ e) s.heap.objs.size (Nat.ne_of_gt hdl) (Nat.ne_of_gt hdl) _ 0 (Heap.get?_push_size _ rfl) (fun h' tk acc c hk hS hacc=>hR h' tk acc c hk hS hacc) hsz
 unfold collect
 refine wpAny_bind (wpAny_runValue (codeAny_builtin entry_proto_collect' ?_))
 show wpAny _ _ (newList [] >>=fun v=>again (.builtin "list.__iadd__" ⟨[v,.ref d],[]⟩)) _ _ s
 refine wpAny_bind (wpAny_newList (wpAny_pure ⟨Code.quiet_builtin _ (by decide+kernel),key _ fun h' tk acc c hk hS hacc=>?_⟩))
 refine wpAny_bind (wpAny_load hS ?_)
 exact wpAny_pure (h h' tk acc (fun b o e=>hk b o (Nat.ne_of_lt (Heap.lt_size e)) (Heap.get?_push_of_some _ e)) (Heap.lt_size hS) hacc)
end
end L2.Srt
namespace L2
open PySem PySem.Spec PyProof.Rows Srt Itm
section
variable {X:Cx}
theorem getD_map {α β:Type} (f:α→β) (l:List α) (i:Nat) (d:α) (d':β) (h:i < l.length):(l.map f).getD i d'=f (l.getD i d):=by
 rw [List.getD_eq_getElem?_getD,List.getElem?_map,List.getD_eq_getElem?_getD,List.getElem?_eq_getElem h]
 rfl
theorem zm (hc:X.calm=true):gj X (.builtin "sorted") (fun xs H Q=>∃p kvs,xs=[.ref p]∧H p=some (.dT kvs)∧kvs.length≤100000∧
  ∀ts:List Addr,ts.length=kvs.length→(∀(i:Nat) (k:List Key) (v:V),kvs[i]?=some (k,v)→∃t,ts[i]?=some t∧H t=some (.tup (k.map kV)))→∃rk,Ords X.prog X.w X.A.in1.in1 H (ts.map V.ref) rk∧(∀i j,i < ts.length→j < ts.length→ts.getD i 0=ts.getD j 0→rk i=rk j)∧
  ∀(l:Addr) (is:List Nat),is.Perm (List.range ts.length)→(∀i j,i≤j→j < ts.length→rk (is.getD i 0)≤rk (is.getD j 0))→H l=none→Q (.ref l) (upd H l (.lst (is.map fun i=>V.ref (ts.getD i 0))))):=by
 intro pins s σ H xs us Q I r h
 obtain ⟨p,kvs,rfl,hp,h64,q⟩:=h
 obtain ⟨u,rfl,rx⟩:=vals1 r
 cases rx
 have sz:=sizeLine_eq
 obtain ⟨o,es,ep,hdat,raw,I2⟩:=I.Eh hp
 have hd:=(Ja I.hok hp).2.1
 obtain ⟨es',ep',hdat',raw',hsz,get⟩:=zo I2.hok (show upd H p (.frz o (.dT kvs)) p=some (.frz o (.dT kvs)) from ae)
 rw [hdat] at hdat'
 cases hdat'
 obtain ⟨ts,tl,ht⟩:∃ts:List Addr,ts.length=kvs.length∧∀(i:Nat) (k:List Key) (v:V),kvs[i]?=some (k,v)→∃t,ts[i]?=some t∧H t=some (.tup (k.map kV))∧∃u j,es[i]?=some ⟨j,.ref t,u⟩:=by
  refine ⟨(List.range kvs.length).map fun i=>match (es[i]?).map (fun e:DictEntry=>e.key) with | some (Value.ref t)=>t | _=>0,by rw [List.length_map,List.length_range],fun i k v hi=>?_⟩
  obtain ⟨t,u,j,e1,e2,e3⟩:=get i k v hi
  have hil:=(List.getElem?_eq_some_iff.mp hi).1
  refine ⟨t,?_,?_,u,j,e1⟩
  ·rw [List.getElem?_map,List.getElem?_range hil]
   show some (match (es[i]?).map (fun e:DictEntry=>e.key) with | some (Value.ref t)=>t | _=>0)=some t
   rw [e1]
   rfl
  ·have:t≠p:=fun z=>by rw [z,ae] at e2;cases e2
   rw [af this] at e2
   exact e2
 obtain ⟨rk,ho,hal,q⟩:=q ts tl fun i k v hi=>by
  obtain ⟨t,a,b,_⟩:=ht i k v hi
  exact ⟨t,a,b⟩
 refine Calls.call_function_entry kind_sorted plain_sorted entry_sorted (args_sorted1 _) ?_
 unfold Builtin.«sorted»
 refine wpAny_bind (m:=checkCount "sorted" 1 1 _) (wpAny_pure ?_)
 refine wpAny_bind (As hd raw (I.ok.hd hc) (by omega) fun h1 tk acc keep hlt1 hacc=>?_)
 have el:acc.toList.length=ts.length:=by rw [show acc.toList.length=acc.size from Array.length_toList,hacc.1];omega
 have ev:acc.toList=ts.map Value.ref:=by
  refine List.ext_getElem (by rw [List.length_map,el]) fun i hi1 hi2=>?_
  have hik:i < kvs.length:=by omega
  obtain ⟨t,a,b,u,j,c⟩:=ht i kvs[i].1 kvs[i].2 (List.getElem?_eq_getElem hik)
  have hia:i < acc.size:=by rw [hacc.1];omega
  obtain ⟨e,h2,h3⟩:=hacc.2 i acc[i] (Array.getElem?_eq_getElem hia)
  rw [c] at h2
  cases h2
  rw [List.getElem_map,Array.getElem_toList,h3]
  show Value.ref t=Value.ref ts[i]
  rw [List.getElem?_eq_getElem (by omega)] at a
  rw [Option.some.inj a]
 have va:Vals (ts.map V.ref) acc.toList:=by rw [ev];exact pf ts
 refine wpAny_bind (wpAny_newList ?_ (by omega))
 have hoL:(h1.push (seqObj "list" acc.toList.toArray 0)).get? h1.objs.size=some (seqObj "list" acc.toList.toArray 0):=Heap.get?_push_size _ rfl
 have mo:∀b o,s.heap.get? b=some o→(cx (h1.push (seqObj "list" acc.toList.toArray 0)) h1.objs.size acc.toList).get? b=some o:=fun b o e=>by
  have hb:=keep b o e
  have hlt:b < h1.objs.size:=Heap.lt_size hb
  have s1:(h1.push (seqObj "list" acc.toList.toArray 0)).objs.size=h1.objs.size+1:=size_push' _ _
  unfold cx
  rw [Heap.get?_push_ne _ _ _ (by rw [size_push',Heap.size_update,s1];exact Nat.ne_of_lt (Nat.lt_of_lt_of_le hlt (by omega))),Heap.get?_push_ne _ _ _ (by rw [Heap.size_update,s1];exact Nat.ne_of_lt (Nat.lt_of_lt_of_le hlt (by omega))),Heap.get?_update_ne _ _ _ _ (Nat.ne_of_lt hlt),Heap.get?_push_ne _ _ _ (Nat.ne_of_lt hlt)]
  exact hb
 have gd:∀i,i < ts.length→acc.toList.getD i Value.none=.ref (ts.getD i 0):=fun i hi=>by rw [ev,getD_map Value.ref ts i 0 Value.none hi]
 refine wpAny_bind (wpAny_holding (wpAny_call_entry slot_list_sort ⟨_,hoL,rfl⟩ entry_list_sort (vg (r:=rk) hoL (by omega) (fun i j hi hj e=>?_) (fun h2=>ho _ _ (I.hok.kept mo) va h2) fun is hp' hi=>⟨_,rfl,?_⟩) (args_list_sort _)))
 ·rw [gd i (by omega),gd j (by omega)] at e
  exact hal i j (by omega) (by omega) (Value.ref.inj e)
 refine wpAny_pure ⟨_,rfl,?_⟩
 have hz1:s.heap.objs.size≤h1.objs.size:=Nat.le_of_lt hlt1
 obtain ⟨e,he⟩:=Fv (h:=h1) (vs:=acc.toList) (out:=List.toArray (is.map fun i=>acc.toList.getD i Value.none))
 rw [el] at hp'
 have hin:∀i∈is,i < (ts.map V.ref).length:=fun i hi=>by rw [List.length_map];exact List.mem_range.mp (hp'.mem_iff.mp hi)
 have hz:(is.map fun i=>(ts.map V.ref).getD i V.non).length≤sizeLine:=by
  rw [List.length_map,hp'.length_eq,List.length_range]
  omega
 have eq:(is.map fun i=>(ts.map V.ref).getD i V.non)=is.map fun i=>V.ref (ts.getD i 0):=List.map_congr_left fun i hi=>getD_map V.ref ts i 0 V.non (List.mem_range.mp (hp'.mem_iff.mp hi))
 rw [eq] at hz
 refine ⟨.ref h1.objs.size,_,I.laid (fun b o e=>Cm (keep b o e)) hz1 (show bp X.prog X.w _ _ _ (.lst (is.map fun i=>V.ref (ts.getD i 0))) from ⟨hz,_,e,by rw [←eq];exact pb va _ hin,he⟩),rfl,q _ _ hp' (fun i j hij hj=>hi i j hij (by omega)) (I.hok.fresh hz1)⟩
end
end L2
namespace L2.Srt
open PySem PySem.W PyProof.Rows
theorem qc {M:Model} {h:Heap} {T:Value}:∀(vs:List Value),(∀v∈vs,∃a o xs n f,v=Value.ref a∧h.get? a=some o∧o.cls=.type "tuple"∧o.data=.seq xs n∧xs[0]?=some f∧Looks M h (typeOf f) T)→
  ∃fs,KatTups h vs fs∧fs.length=vs.length∧∀f∈fs,Looks M h (typeOf f) T
 | [],_=>⟨[],trivial,rfl,fun _ h=>nomatch h⟩
 | v::vs,hv=>by
  obtain ⟨fs,k,e,l⟩:=qc vs fun u hu=>hv u (List.mem_cons_of_mem _ hu)
  obtain ⟨a,o,xs,n,f,ev,ho,hc,hd,hf,hl⟩:=hv v List.mem_cons_self
  refine ⟨f::fs,⟨⟨a,o,xs,n,ev,ho,hc,hd,hf⟩,k⟩,by rw [List.length_cons,List.length_cons,e],fun g hg=>?_⟩
  rcases List.mem_cons.mp hg with rfl | hg
  ·exact hl
  ·exact l g hg
end L2.Srt
namespace L2
open PySem PySem.Spec PyProof.Rows Srt
noncomputable def ltK (a b:Int×Str):Bool:=if a.1=b.1 then ltS a.2 b.2 else decide (a.1 < b.1)
theorem Dw (a:Int×Str):ltK a a=false:=by
 unfold ltK
 rw [if_pos rfl,om]
theorem Ds (a b:Int×Str):ltK a b=true∨a=b∨ltK b a=true:=by
 obtain ⟨a1,a2⟩:=a
 obtain ⟨b1,b2⟩:=b
 unfold ltK
 dsimp only
 by_cases e:a1=b1
 ·subst e
  rw [if_pos rfl,if_pos rfl]
  rcases y3 a2 b2 with h | h | h
  ·exact .inl h
  ·exact .inr (.inl (by rw [h]))
  ·exact .inr (.inr h)
 ·rw [if_neg e,if_neg fun z=>e z.symm]
  by_cases h:a1 < b1
  ·exact .inl (decide_eq_true h)
  ·exact .inr (.inr (decide_eq_true (by omega)))
theorem Cf {a b c:Int×Str} (h1:ltK a b=true) (h2:ltK b c=true):ltK a c=true:=by
 obtain ⟨a1,a2⟩:=a
 obtain ⟨b1,b2⟩:=b
 obtain ⟨c1,c2⟩:=c
 unfold ltK at h1 h2 ⊢
 dsimp only at h1 h2 ⊢
 by_cases e1:a1=b1
 ·subst e1
  rw [if_pos rfl] at h1
  by_cases e2:a1=c1
  ·rw [if_pos e2] at h2 ⊢
   exact sv h1 h2
  ·rw [if_neg e2] at h2 ⊢
   exact h2
 ·rw [if_neg e1] at h1
  have h1:=of_decide_eq_true h1
  by_cases e2:b1=c1
  ·subst e2
   rw [if_neg e1]
   exact decide_eq_true h1
  ·rw [if_neg e2] at h2
   have h2:=of_decide_eq_true h2
   rw [if_neg (by omega)]
   exact decide_eq_true (by omega)
theorem Ox {a c:Int×Str} (b:Int×Str) (h:ltK a c=true):ltK a b=true∨ltK b c=true:=by
 rcases Ds a b with e | e | e
 ·exact .inl e
 ·subst e;exact .inr h
 ·exact .inr (Cf e h)
theorem Dp (ks:List (Int×Str)) (d:Int×Str):Ord ks.length fun i j=>ltK (ks.getD i d) (ks.getD j d):=⟨fun _ _=>Dw _,fun _ _ _ _ _ _ a b=>Cf a b,fun _ j _ _ _ _ a=>Ox _ a⟩
section
variable {P:Program} {w:World} {A:Around} {H:Hp}
theorem Ot {ts:List Addr} {ks:List (Int×Str)} {d:Int×Str} (hl:ts.length=ks.length) (hR:∀i,i < ks.length→H (ts.getD i 0)=some (.tup [.int (ks.getD i d).1,.str (ks.getD i d).2])):Ords P w A H (ts.map V.ref) (rank ks.length fun i j=>ltK (ks.getD i d) (ks.getD j d)):=by
 intro s vs hok r h2
 have hlen:=r.length
 rw [List.length_map] at hlen
 have o:=Dp ks d
 have row:∀i,i < ks.length→∃(t:Addr) (tk tk':Nat),vs.getD i Value.none=.ref t∧s.heap.IsTuple t [Value.int (ks.getD i d).1 tk,Value.str (ks.getD i d).2 tk'].toArray:=fun i hi=>by
  have hi2:i < ts.length:=by omega
  obtain ⟨u,hu,ru⟩:=r.get (i:=i) (x:=V.ref (ts.getD i 0)) (by rw [List.getElem?_map,List.getD_eq_getElem?_getD,List.getElem?_eq_getElem hi2];rfl)
  cases (show u=Value.ref (ts.getD i 0) from ru)
  obtain ⟨_,its,ri,pi⟩:=Kr hok (hR i hi)
  cases ri with
  | cons r1 rr=>
   cases rr with
   | cons r2 rr=>
    cases rr
    obtain ⟨tk,rfl⟩:=r1
    obtain ⟨tk',rfl⟩:=r2
    exact ⟨_,tk,tk',by rw [List.getD_eq_getElem?_getD,hu];rfl,pi⟩
 obtain ⟨firsts,kt,kl,kT⟩:=qc (M:=model P w) (h:=s.heap) (T:=.type "int") vs fun v hv=>by
  obtain ⟨i,hi,e⟩:=List.mem_iff_getElem.mp hv
  obtain ⟨t,tk,tk',et,⟨ob,ho,hc,n,hd⟩⟩:=row i (by omega)
  rw [List.getD_eq_getElem?_getD,List.getElem?_eq_getElem hi] at et
  refine ⟨t,ob,_,n,.int (ks.getD i d).1 tk,by rw [←e];exact et,ho,hc,hd,rfl,?_⟩
  exact .now
 refine PySem.W.kat_kind kt (by omega) kT (by rfl) ⟨rfl,fun i j C hi hj hC=>?_⟩
 rw [o.rank (by omega) (by omega)] at hC
 obtain ⟨t,tk,tk',et,pt⟩:=row i (by omega)
 obtain ⟨u,uk,uk',eu,pu⟩:=row j (by omega)
 obtain ⟨ob,ho,hc,n,hd⟩:=id pt
 obtain ⟨ob',ho',hc',n',hd'⟩:=id pu
 generalize ks.getD i d=a at*
 generalize ks.getD j d=b at*
 show wpAny (model P w) A (keyLt' (tuples' true) _ _) C _ s
 rw [et,eu]
 refine PySem.W.kat_lt (b:=true) ho hd ho' hd' ?_
 show PySem.W.KatLex P w A true (decide (2 < 2)) C [(.int a.1 tk,.int b.1 uk),(.str a.2 tk',.str b.2 uk')] 0 s
 unfold ltK at hC
 refine PySem.W.kat_cons (SeqAt.EqAt.int_int _ _ _ _ _ _ _ _ ?_)
 by_cases e:a.1=b.1
 ·rw [show (a.1==b.1)=true by rw [e];exact beq_self_eq_true _]
  rw [if_pos e] at hC
  refine PySem.W.kat_yes (PySem.W.kat_cons (SeqAt.EqAt.str_str _ _ _ _ _ _ _ _ ?_))
  by_cases e2:a.2=b.2
  ·rw [show (a.2==b.2)=true by rw [e2];exact beq_self_eq_true _]
   rw [e2,om] at hC
   exact PySem.W.kat_yes (PySem.W.kat_nil hC)
  ·rw [show (a.2==b.2)=false from beq_eq_false_iff_ne.mpr e2]
   exact PySem.W.kat_no (PySem.W.kat_one _ _ (SeqAt.LtAt.str _ _ _ _ hC))
 ·rw [show (a.1==b.1)=false from beq_eq_false_iff_ne.mpr e]
  rw [if_neg e] at hC
  exact PySem.W.kat_no (oneLt_int hC)
end
end L2
namespace L2
open PySem PySem.Spec PyProof.Rows
theorem K0 {a:Addr} {o:Obj} {kvs:List (List Key×V)} {fr:St} {tc:TT} {te:TE} {D:Addr} {H1:Hp} {Q:Hp→Prop} (P:Nat→List V→Hp→Prop) (mono:∀i ys H H',(∀b u,b≠D→H b=some u→H' b=some u)→P i ys H→P i ys H') (ha:H1 a=some (.frz o (.dT kvs))) (hn:kvs.length < sizeLine) (hD:H1 D=none) (h0:P 0 [] H1)
  (step:∀i t k v ys H (G:Hp→Prop) (K':V→Hp→Prop),kvs[i]?=some (k,v)→H t=some (.tup (k.map kV))→P i ys H→H D=some (.lst ys)→ys.length≤i→ao H1 H→(∀H3,ao H H3→P (i+1) ys H3→G H3)→(∀y H4,ao H H4→P (i+1) (ys++[y]) H4→K' y H4)→tc ([some (.ref t)]++fr) H fun b H3=>if b=true then te ([some (.ref t)]++fr) H3 K' else G H3)
  (done:∀ys H,P kvs.length ys H→ys.length≤kvs.length→ao H1 H→H D=some (.lst ys)→Q H):LC 1 fr (ck 0) tc te (Itq a o kvs) D H1 Q:=by
 refine ⟨fun i m H=>m=kvs.length - i∧i≤kvs.length∧∃ys,H D=some (.lst ys)∧P i ys H∧ys.length≤i∧ao H1 H,⟨kvs.length,by simp,Nat.zero_le _,[],ae,mono _ _ _ _ (fun b u _ h=>aa hD _ _ _ h) h0,Nat.le_refl _,aa hD _⟩,?_⟩
 rintro i m H ⟨rfl,hi,ys,hys,hP,hl,hS⟩
 by_cases hlt:i < kvs.length
 ·refine .inr ⟨⟨hlt,hS _ _ ha⟩,fun τ x H' hτ hy=>?_⟩
  obtain ⟨e1,t,k,v,hk,ht,rfl⟩:=hy
  subst e1
  obtain ⟨b,rfl⟩:∃b,τ=[b]:=List.length_eq_one_iff.mp hτ
  refine ⟨⟨[some (.ref t)],rfl,rfl⟩,step i t k v ys H' _ _ hk ht hP hys hl hS (fun H3 q1 q2=>?_) (fun y H4 q1 q2=>?_)⟩
  ·exact ⟨kvs.length - (i+1),by omega,rfl,hlt,ys,q1 _ _ hys,q2,Nat.le_succ_of_le hl,hS.trans q1⟩
  ·refine ⟨ys,q1 _ _ hys,by omega,kvs.length - (i+1),by omega,rfl,hlt,ys++[y],ae,mono _ _ _ _ (fun b u hb h=>by rw [af hb];exact h) q2,?_,(hS.trans q1).upd hD _⟩
   rw [List.length_append,List.length_singleton]
   omega
 ·have e:i=kvs.length:=by omega
  subst e
  exact .inl ⟨⟨rfl,hS _ _ ha⟩,done ys H hP hl hS hys⟩
end L2
namespace Pc
open PySem PySem.Spec L2 PyProof.Rows Fm
structure Lf where
 place:Nat
 r:Rl
 hs:List Ky
noncomputable def gr (f:Lf):Ft Ky:=⟨(f.place,f.r.kind),f.r.price,f.hs⟩
def LfAt (H:Hp) (no:Addr→Prop) (a:Addr) (f:Lf):Prop:=∃ra hl,¬no hl∧H a=some (.tup [.ref ra,.int (f.place:Int),.ref hl])∧dz H ra f.r∧mn H hl f.hs
def cu (H:Hp) (no:Addr→Prop) (as:List Addr) (fs:List Lf):Prop:=as.length=fs.length∧∀(j:Nat) (f:Lf),fs[j]?=some f→∃a,as[j]?=some a∧LfAt H no a f
theorem dz.kx {no:Addr→Prop} {H H':Hp} {a:Addr} {r:Rl} (h:dz H a r) (x:Kx no H H'):dz H' a r:=by
 obtain ⟨sa,da,ds,h1,h2,h3⟩:=h
 exact ⟨sa,da,ds,x.t h1,x.t h2,x.t h3⟩
theorem LfAt.kx {no:Addr→Prop} {H H':Hp} {a:Addr} {f:Lf} (h:LfAt H no a f) (x:Kx no H H'):LfAt H' no a f:=by
 obtain ⟨ra,hl,g2,g3,g4,g5⟩:=h
 exact ⟨ra,hl,g2,x.t g3,g4.kx x,g5.kx x g2⟩
theorem cu.kx {no:Addr→Prop} {H H':Hp} {as:List Addr} {fs:List Lf} (h:cu H no as fs) (x:Kx no H H'):cu H' no as fs:=⟨h.1,fun j f e=>by
 obtain ⟨a,g1,g2⟩:=h.2 j f e
 exact ⟨a,g1,g2.kx x⟩⟩
theorem cu.same {no:Addr→Prop} {H H':Hp} {as:List Addr} {fs:List Lf} (h:cu H no as fs) (s:ao H H'):cu H' no as fs:=h.kx (Kx.same s)
theorem cu.weak {no no':Addr→Prop} {H:Hp} {as:List Addr} {fs:List Lf} (h:cu H no as fs) (w:∀x,no' x→no x):cu H no' as fs:=⟨h.1,fun j f e=>by
 obtain ⟨a,g1,ra,hl,g2,g3⟩:=h.2 j f e
 exact ⟨a,g1,ra,hl,fun z=>g2 (w _ z),g3⟩⟩
theorem cu.snoc {no:Addr→Prop} {H:Hp} {as:List Addr} {fs:List Lf} {a:Addr} {f:Lf} (h:cu H no as fs) (hf:LfAt H no a f):cu H no (as++[a]) (fs++[f]):=by
 refine ⟨by rw [List.length_append,List.length_append,h.1];rfl,fun i f' hi=>?_⟩
 by_cases c:i < fs.length
 ·rw [List.getElem?_append_left c] at hi
  obtain ⟨a',g1,g2⟩:=h.2 i f' hi
  exact ⟨a',by rw [List.getElem?_append_left (by rw [h.1];exact c)];exact g1,g2⟩
 ·rw [List.getElem?_append_right (by omega)] at hi
  have hz:i - fs.length=0:=by
   rcases Nat.eq_zero_or_pos (i - fs.length) with g | g
   ·exact g
   ·rw [List.getElem?_eq_none (by rw [List.length_singleton];omega)] at hi;cases hi
  rw [hz] at hi
  cases hi
  exact ⟨a,by rw [List.getElem?_append_right (by rw [h.1];omega),h.1,hz];rfl,hf⟩
theorem cu.nil (H:Hp) (no:Addr→Prop):cu H no [] []:=⟨rfl,fun j f h=>by simp at h⟩
theorem cu.get {no:Addr→Prop} {H:Hp} {as:List Addr} {fs:List Lf} (h:cu H no as fs) {i:Nat} {a:Addr} (ha:as[i]?=some a):∃f,fs[i]?=some f∧LfAt H no a f:=by
 have hi:i < fs.length:=by rw [←h.1];exact (List.getElem?_eq_some_iff.mp ha).1
 obtain ⟨a',h1,h2⟩:=h.2 i _ (List.getElem?_eq_getElem hi)
 obtain rfl:a'=a:=Option.some.inj (h1.symm.trans ha)
 exact ⟨_,List.getElem?_eq_getElem hi,h2⟩
noncomputable def il (kinds:List Str) (ws:List V) (p:Nat) (r:Rl):Option Lf:=(dk kinds ws r.shape p ⟨[],[],[]⟩).map fun u=>⟨p,r,u.hs.zip (ba kinds r.shape)⟩
noncomputable def wa (kinds:List Str) (rs:List Rl) (ws:List V) (p:Nat):List Lf:=rs.filterMap (il kinds ws p)
noncomputable def yl (kinds:List Str) (rs:List Rl) (ws:List V) (i:Nat):List Lf:=(List.range i).flatMap fun b=>wa kinds rs ws (ws.length - 1 - b)
noncomputable def pz (kinds:List Str) (rs:List Rl) (ws:List V):List Lf:=yl kinds rs ws ws.length
theorem o8 (kinds:List Str) (rs:List Rl) (ws:List V) (i:Nat):yl kinds rs ws (i+1)=yl kinds rs ws i++wa kinds rs ws (ws.length - 1 - i):=by
 unfold yl
 rw [List.range_succ,List.flatMap_append]
 simp
theorem Er (kinds:List Str) (rs:List Rl) (ws:List V) (p:Nat):(wa kinds rs ws p).map gr=(bo kinds rs ws p).map (dv p):=by
 unfold wa bo
 rw [List.map_filterMap,List.map_filterMap]
 congr 1
 funext r
 unfold il jr
 rw [Option.map_map,Option.map_map]
 rfl
theorem lf_mem (kinds:List Str) (rs:List Rl) (ws:List V) (f:Ft Ky):f∈(pz kinds rs ws).map gr↔f∈qm kinds rs ws:=by
 unfold pz yl qm
 rw [List.map_flatMap,List.mem_flatMap,List.mem_flatMap]
 constructor
 ·rintro ⟨b,hb,h⟩
  rw [Er] at h
  have:=List.mem_range.mp hb
  exact ⟨ws.length - 1 - b,List.mem_range.mpr (by omega),h⟩
 ·rintro ⟨p,hp,h⟩
  have:=List.mem_range.mp hp
  refine ⟨ws.length - 1 - p,List.mem_range.mpr (by omega),?_⟩
  rw [Er,show ws.length - 1 - (ws.length - 1 - p)=p by omega]
  exact h
theorem Tbl.of_mem {κ:Type} [DecidableEq κ] {F F':List (Ft κ)} {g:κ→Option Int} (h:Tbl F g) (e:∀f,f∈F↔f∈F'):Tbl F' g:=⟨fun f hf=>h.st f ((e f).mpr hf),fun k v hv=>by
 obtain ⟨f,hf,r⟩:=h.du k v hv
 exact ⟨f,(e f).mp hf,r⟩,h.pos⟩
theorem ud (kinds:List Str) (rs:List Rl) (ws:List V) (hr:rs.length≤100):∀i,(yl kinds rs ws i).length≤100*i
 | 0=>Nat.le_refl _
 | i+1=>by
  rw [o8,List.length_append]
  have h1:=ud kinds rs ws hr i
  have h2:(wa kinds rs ws (ws.length - 1 - i)).length≤rs.length:=List.length_filterMap_le _ _
  omega
theorem lf_own {kinds:List Str} {rs:List Rl} {ws:List V} (bk:Bk kinds rs):∀f∈pz kinds rs ws,1≤f.r.price:=fun f hf=>by
 obtain ⟨b,_,h⟩:=List.mem_flatMap.mp hf
 obtain ⟨r,hr,e⟩:=List.mem_filterMap.mp h
 obtain ⟨u,_,rfl⟩:=Option.map_eq_some_iff.mp e
 exact bk.pr r hr
def TbK (H:Hp) (d:Addr) (g:Ky→Option Int) (ks:List Ky):Prop:=∃kvs:List (List Key×V),H d=some (.dT kvs)∧kvs.map (·.1)=ks.map kyK∧ks.Nodup∧∀k,cz kvs (kyK k)=(g k).map V.int
theorem TbK.tb {H:Hp} {d:Addr} {g:Ky→Option Int} {ks:List Ky} (h:TbK H d g ks):cv H d g ks.length:=by
 obtain ⟨kvs,h1,h2,_,h3⟩:=h
 have:=congrArg List.length h2
 rw [List.length_map,List.length_map] at this
 exact ⟨kvs,h1,by omega,h3⟩
theorem TbK.at {H H':Hp} {d:Addr} {g:Ky→Option Int} {ks:List Ky} (h:TbK H d g ks) (e:∀o,H d=some o→H' d=some o):TbK H' d g ks:=by
 obtain ⟨kvs,h1,h2⟩:=h
 exact ⟨kvs,e _ h1,h2⟩
theorem TbK.same {H H':Hp} {d:Addr} {g:Ky→Option Int} {ks:List Ky} (h:TbK H d g ks) (s:ao H H'):TbK H' d g ks:=h.at fun o e=>s _ _ e
theorem TbK.nil {H:Hp} {d:Addr}:TbK (upd H d (.dT [])) d (fun _=>none) []:=⟨[],ae,rfl,List.nodup_nil,fun _=>rfl⟩
theorem TbK.mem {H:Hp} {d:Addr} {g:Ky→Option Int} {ks:List Ky} (h:TbK H d g ks) (k:Ky):k∈ks↔(g k).isSome=true:=by
 obtain ⟨kvs,h1,h2,h3,h4⟩:=h
 have e:(cz kvs (kyK k)).isSome=(g k).isSome:=by rw [h4 k];cases g k <;> rfl
 rw [←e,←dy,List.any_eq_true]
 constructor
 ·intro hk
  have:kyK k∈kvs.map (·.1):=by rw [h2];exact List.mem_map.mpr ⟨k,hk,rfl⟩
  obtain ⟨p,hp,e⟩:=List.mem_map.mp this
  exact ⟨p,hp,decide_eq_true e⟩
 ·rintro ⟨p,hp,e⟩
  have:kyK k∈kvs.map (·.1):=List.mem_map.mpr ⟨p,hp,of_decide_eq_true e⟩
  rw [h2] at this
  obtain ⟨k',hk',e'⟩:=List.mem_map.mp this
  rw [←n6 e']
  exact hk'
theorem TbK.put {H:Hp} {d b:Addr} {g:Ky→Option Int} {ks:List Ky} {k:Ky} {v:Int} (h:TbK H d g ks) (hb:H b=some (kyT k)) (hn:ks.length≤1000000):
  ∃o ks',vc H d (.ref b) (.int v) (upd H d o)∧TbK (upd H d o) d (eh g k v) ks'∧ks'.length≤if (g k).isSome then ks.length else ks.length+1:=by
 have hm:=h.mem k
 obtain ⟨kvs,h1,h2,nd,h3⟩:=h
 have sz:=sizeLine_eq
 have hl:kvs.length=ks.length:=by
  have:=congrArg List.length h2
  rw [List.length_map,List.length_map] at this
  exact this
 have hk:=h3 k
 have val:∀j,cz (putK kvs (kyK k) (.int v)) (kyK j)=(eh g k v j).map V.int:=fun j=>by
  rw [Aq]
  by_cases e:j=k
  ·subst e
   rw [if_pos rfl,cb]
   rfl
  ·rw [if_neg (fun z=>e (n6 z)),dh e]
   exact h3 j
 cases e:g k with
 | none=>
  rw [e] at hk
  refine ⟨_,ks++[k],vc.t (k:=kyK k) h1 hb (by omega),⟨_,ae,?_,?_,val⟩,?_⟩
  ·rw [Ba _ hk,List.map_append,List.map_append,h2]
   rfl
  ·refine List.nodup_append.mpr ⟨nd,by simp,fun a ha c hc e2=>?_⟩
   rw [List.mem_singleton.mp hc] at e2
   rw [e2] at ha
   have:=hm.mp ha
   rw [e] at this
   cases this
  ·rw [List.length_append]
   simp
 | some w=>
  rw [e] at hk
  have ha:(kvs.any fun kv=>decide (kv.1=kyK k))=true:=by rw [dy,hk];rfl
  refine ⟨_,ks,vc.t (k:=kyK k) h1 hb (by omega),⟨_,ae,?_,nd,val⟩,?_⟩
  ·unfold putK
   rw [if_pos ha,List.map_map,←h2]
   apply List.map_congr_left
   intro p _
   show (if _ then _ else _:List Key×V).1=p.1
   split
   ·rename_i c
    first | exact (of_decide_eq_true c).symm | exact c.symm | rfl
   ·rfl
  ·simp
noncomputable def blAt2 (σ:List (Option V)):Nat:=match σ[2]? with
 | some (some (V.bl true))=>1
 | _=>0
noncomputable def gg (fs:List Lf) (g:Ky→Option Int) (k:Ky):List Str:=(fs.filter fun f=>decide ((f.place,f.r.kind)=k∧cost g f.r.price f.hs=g k)).map (·.r.name)
theorem J0 {kinds:List Str} {rs:List Rl} {ws:List V} {g:Ky→Option Int} {p:Nat} {k:Str} {v:Int} (hv:g (p,k)=some v) (hp:p < ws.length):gg (pz kinds rs ws) g (p,k)=namesW (bo kinds rs ws p) g k v:=by
 have one:∀q,((wa kinds rs ws q).filter fun f=>decide ((f.place,f.r.kind)=(p,k)∧cost g f.r.price f.hs=g (p,k))).map (·.r.name)=if q=p then namesW (bo kinds rs ws p) g k v else []:=fun q=>by
  have pl:∀f∈wa kinds rs ws q,f.place=q:=fun f hf=>by
   obtain ⟨r,hr,e⟩:=List.mem_filterMap.mp hf
   obtain ⟨u,_,rfl⟩:=Option.map_eq_some_iff.mp e
   rfl
  by_cases e:q=p
  ·subst e
   rw [if_pos rfl]
   unfold wa bo namesW
   rw [hv]
   induction rs with
   | nil=>rfl
   | cons r rs ih=>
    have ih:=ih fun f hf=>pl f (by
     unfold wa at hf ⊢
     rw [List.filterMap_cons]
     cases il kinds ws q r with
     | none=>exact hf
     | some x=>exact List.mem_cons_of_mem _ hf)
    rw [List.filterMap_cons,List.filterMap_cons]
    unfold il jr at ih ⊢
    cases dk kinds ws r.shape q ⟨[],[],[]⟩ with
    | none=>exact ih
    | some u=>
     show ((_::_:List Lf).filter _).map _=((_::_:List Fr).filter _).map _
     rw [List.filter_cons,List.filter_cons]
     have c:decide (((⟨q,r,u.hs.zip (ba kinds r.shape)⟩:Lf).place,(⟨q,r,u.hs.zip (ba kinds r.shape)⟩:Lf).r.kind)=(q,k)∧cost g (⟨q,r,u.hs.zip (ba kinds r.shape)⟩:Lf).r.price (⟨q,r,u.hs.zip (ba kinds r.shape)⟩:Lf).hs=some v)=decide (r.kind=k∧cost g r.price (u.hs.zip (ba kinds r.shape))=some v):=decide_eq_decide.mpr ⟨fun h=>⟨(Prod.mk.inj h.1).2,h.2⟩,fun h=>⟨by rw [←h.1],h.2⟩⟩
     rw [c]
     by_cases c2:r.kind=k∧cost g r.price (u.hs.zip (ba kinds r.shape))=some v
     ·rw [if_pos (decide_eq_true c2)]
      rw [if_pos (show decide (r.kind=k∧cost g r.price (u.hs.zip (ba kinds r.shape))=some v)=true from decide_eq_true c2),List.map_cons,List.map_cons,ih]
     ·rw [if_neg (by simpa using c2)]
      rw [if_neg (show ¬decide (r.kind=k∧cost g r.price (u.hs.zip (ba kinds r.shape))=some v)=true by simpa using c2)]
      exact ih
  ·rw [if_neg e]
   have:(wa kinds rs ws q).filter (fun f=>decide ((f.place,f.r.kind)=(p,k)∧cost g f.r.price f.hs=g (p,k)))=[]:=List.filter_eq_nil_iff.mpr fun f hf c=>by
    have:=(Prod.mk.inj (of_decide_eq_true c).1).1
    rw [pl f hf] at this
    exact e this
   rw [this]
   rfl
 have all:∀i,i≤ws.length→((yl kinds rs ws i).filter fun f=>decide ((f.place,f.r.kind)=(p,k)∧cost g f.r.price f.hs=g (p,k))).map (·.r.name)=if ws.length - 1 - p < i then namesW (bo kinds rs ws p) g k v else []:=by
  intro i
  induction i with
  | zero=>intro _;rw [if_neg (Nat.not_lt_zero _)];rfl
  | succ i ih=>
   intro hi
   rw [o8,List.filter_append,List.map_append,ih (by omega),one]
   by_cases c:ws.length - 1 - p < i
   ·rw [if_pos c,if_neg (show ¬ws.length - 1 - i=p by omega),if_pos (show ws.length - 1 - p < i+1 by omega),List.append_nil]
   ·rw [if_neg c]
    by_cases c2:ws.length - 1 - i=p
    ·rw [if_pos c2,if_pos (show ws.length - 1 - p < i+1 by omega)];rfl
    ·rw [if_neg c2,if_neg (show ¬ws.length - 1 - p < i+1 by omega)];rfl
 have:=all ws.length (Nat.le_refl _)
 rw [if_pos (by omega)] at this
 exact this
theorem linK:Lin ltK:=⟨Dw,Cf,Ds⟩
noncomputable def kyI (k:Ky):Int×Str:=((k.1:Int),k.2)
theorem Ow {a b:Ky} (h:kyI a=kyI b):a=b:=by
 obtain ⟨a1,a2⟩:=a
 obtain ⟨b1,b2⟩:=b
 have h1:(a1:Int)=(b1:Int):=(Prod.mk.inj h).1
 have h2:a2=b2:=(Prod.mk.inj h).2
 rw [show a1=b1 by omega,h2]
theorem Bl {kinds:List Str} (rs:List Rl) (ws:List V) (g:Ky→Option Int):∀i,Srt ltK (((je kinds rs ws g i).map jj).map kyI)∧∀k∈(je kinds rs ws g i).map jj,k.1 < i
 | 0=>⟨List.Pairwise.nil,fun k h=>nomatch h⟩
 | i+1=>by
  obtain ⟨h1,h2⟩:=Bl rs ws g i
  rw [gu,List.map_append,jo]
  have one:∀k∈((cq kinds).filter fun k=>(g (i,k)).isSome).map (fun k=>(i,k)),k.1=i:=fun k hk=>by
   obtain ⟨z,_,rfl⟩:=List.mem_map.mp hk
   rfl
  refine ⟨?_,fun k hk=>?_⟩
  ·rw [List.map_append]
   refine List.pairwise_append.mpr ⟨h1,?_,fun a ha b hb=>?_⟩
   ·rw [List.map_map]
    refine List.pairwise_map.mpr ?_
    have hs:Srt ltS ((cq kinds).filter fun k=>(g (i,k)).isSome):=List.Pairwise.sublist List.filter_sublist (ph (linS.pre id) kinds)
    refine hs.imp fun {a b} h=>?_
    show ltK ((i:Int),b) ((i:Int),a)=false
    unfold ltK
    rw [if_pos rfl]
    exact h
   ·obtain ⟨a',ha',rfl⟩:=List.mem_map.mp ha
    obtain ⟨b',hb',rfl⟩:=List.mem_map.mp hb
    have:=h2 a' ha'
    have:=one b' hb'
    show ltK ((b'.1:Int),b'.2) ((a'.1:Int),a'.2)=false
    unfold ltK
    dsimp only
    rw [if_neg (by omega)]
    exact decide_eq_false (by omega)
  ·rcases List.mem_append.mp hk with m | m
   ·have:=h2 k m;omega
   ·have:=one k m;omega
theorem He {kinds:List Str} {rs:List Rl} {ws:List V} {g:Ky→Option Int} (bk:Bk kinds rs) (T:Tbl (qm kinds rs ws) g) {ks:List Ky} (nd:ks.Nodup) (hm:∀k,k∈ks↔(g k).isSome=true) {is:List Nat} (hp:is.Perm (List.range ks.length))
  (hs:∀i j,i≤j→j < ks.length→rank ks.length (fun i j=>ltK ((ks.map kyI).getD i (0,"")) ((ks.map kyI).getD j (0,""))) (is.getD i 0)≤rank ks.length (fun i j=>ltK ((ks.map kyI).getD i (0,"")) ((ks.map kyI).getD j (0,""))) (is.getD j 0)):
  is.map (fun i=>ks.getD i (0,""))=(rowsOf kinds rs ws g).map jj:=by
 have hil:is.length=ks.length:=by rw [hp.length_eq,List.length_range]
 have hin:∀i∈is,i < ks.length:=fun i hi=>List.mem_range.mp (hp.mem_iff.mp hi)
 have e0:ks=(List.range ks.length).map fun i=>ks.getD i (0,""):=by
  refine List.ext_getElem (by rw [List.length_map,List.length_range]) fun i h1 h2=>?_
  rw [List.getElem_map,List.getElem_range,List.getD_eq_getElem?_getD,List.getElem?_eq_getElem h1]
  rfl
 have p1:(is.map fun i=>ks.getD i (0,"")).Perm ks:=by
  have:=hp.map fun i=>ks.getD i (0,"")
  rw [←e0] at this
  exact this
 have nd2:=(oo bk.kn rs ws g ws.length).1
 have p2:ks.Perm ((rowsOf kinds rs ws g).map jj):=by
  refine (List.perm_ext_iff_of_nodup nd nd2).mpr fun k=>?_
  rw [hm k]
  constructor
  ·intro h
   obtain ⟨v,hv⟩:=Option.isSome_iff_exists.mp h
   obtain ⟨r,hr,h1,h2,_⟩:=Kn bk T hv
   exact List.mem_map.mpr ⟨r,hr,by unfold jj;rw [h1,h2]⟩
  ·intro h
   obtain ⟨r,hr,rfl⟩:=List.mem_map.mp h
   have:=(t8 hr).2.1
   show (g (r.place,r.kind)).isSome=true
   rw [this]
   rfl
 have o:=Dp (ks.map kyI) (0,"")
 rw [List.length_map] at o
 have s1:Srt ltK ((is.map fun i=>ks.getD i (0,"")).map kyI):=by
  rw [List.map_map]
  refine List.pairwise_map.mpr (List.pairwise_iff_getElem.mpr fun i j hi hj hij=>?_)
  have gi:∀i (h:i < is.length),is.getD i 0=is[i]:=fun i h=>by rw [List.getD_eq_getElem?_getD,List.getElem?_eq_getElem h];rfl
  have:=hs i j (by omega) (by omega)
  rw [gi i hi,gi j hj] at this
  have b1:=hin is[i] (List.getElem_mem hi)
  have b2:=hin is[j] (List.getElem_mem hj)
  have q:=o.rank b2 b1
  rw [decide_eq_false (by omega)] at q
  rw [getD_map kyI ks _ (0,"") (0,"") b1,getD_map kyI ks _ (0,"") (0,"") b2] at q
  exact q.symm
 have s2:=(Bl (kinds:=kinds) rs ws g ws.length).1
 have:=mr linK ((p1.trans p2).map kyI) s1 s2
 exact (List.map_inj_right (fun a b h=>Ow h)).mp this
def sr:Sp:=fun vs H Q _=>∃(b wt:Addr) (kinds:List Str) (rs:List Rl) (ws:List V),vs=[.ref b,.ref wt]∧dg H b kinds rs∧H wt=some (.tup ws)∧Bk kinds rs∧Tw ws∧∀(l:Addr) (as:List Addr) (H':Hp),ao H H'→H l=none→H' l=some (.lst (as.map V.ref))→cu H' (fun x=>H x≠none) as (pz kinds rs ws)→Q (.ref l) H'
def m5:Sp:=fun vs H Q _=>∃(ra hl d:Addr) (r:Rl) (hs:List Ky) (g:Ky→Option Int) (n:Nat),vs=[.ref ra,.ref hl,.ref d]∧dz H ra r∧mn H hl hs∧cv H d g n∧Q (.int ((cost g r.price hs).getD 0)) H
def oh:Sp:=fun vs H Q _=>∃(fl:Addr) (as:List Addr) (fs:List Lf),vs=[.ref fl]∧H fl=some (.lst (as.map V.ref))∧cu H (fun _=>False) as fs∧fs.length≤1000000∧(∀f∈fs,1≤f.r.price)∧∀(d:Addr) (H':Hp) (g:Ky→Option Int) (ks:List Ky),ao H H'→H d=none→TbK H' d g ks→Tbl (fs.map gr) g→ks.length≤fs.length→Q (.ref d) H'
def RcAt (H:Hp) (fd:Addr) (ks:List Ky) (ls:List Addr) (nm:Ky→List Str):Prop:=H fd=some (.dT ((ks.zip ls).map fun p=>(kyK p.1,V.ref p.2)))∧ls.length=ks.length∧∀(j:Nat) (k:Ky) (l:Addr),ks[j]?=some k→ls[j]?=some l→H l=some (.lst ((nm k).map V.str))
def ou:Sp:=fun vs H Q _=>∃(fl d:Addr) (as:List Addr) (fs:List Lf) (g:Ky→Option Int) (ks:List Ky),vs=[.ref fl,.ref d]∧H fl=some (.lst (as.map V.ref))∧cu H (fun _=>False) as fs∧fs.length≤1000000∧TbK H d g ks∧ks.length≤1000000∧Tbl (fs.map gr) g∧∀(fd:Addr) (ls:List Addr) (H':Hp),ao H H'→H fd=none→RcAt H' fd ks ls (gg fs g)→Q (.ref fd) H'
abbrev Vss:=List (List V)
def yr (H:Hp) (as bs:List Addr) (xs:Vss):Prop:=∀(j:Nat) (x:List V),xs[j]?=some x→(∃a b,as[j]?=some a∧bs[j]?=some b∧H a=some (.tup x)∧H b=some (.tup x))∧(∀v∈x,isW v)∧x.length≤1000
def kb:Sp:=fun vs H Q _=>∃(f d:Addr) (as bs:List Addr) (xs:Vss),vs=[.ref f,.ref d]∧H f=some (.lst (as.map V.ref))∧H d=some (.lst (bs.map V.ref))∧as.length=xs.length∧bs.length=xs.length∧xs.length≤1000000∧yr H as bs xs∧∀H',ao H H'→Q (.bl true) H'
theorem Ol {κ:Type} [DecidableEq κ] {F:List (Ft κ)} {g:κ→Option Int} {f:Ft κ} (hf:f∈F) {c:Int} {m:Nat} (h:m≤if (g f.key).isSome then cnt F g else cnt F g+1):m≤cnt F (eh g f.key c):=by
 cases e:g f.key with
 | none=>
  have:=sd (c:=c) e F ⟨f,hf,rfl⟩
  rw [e] at h
  simp only [Option.isSome_none,Bool.false_eq_true,if_false] at h
  omega
 | some v=>
  have:=j0 (g:=g) (g':=eh g f.key c) F fun f' _ e=>by
   by_cases q:f'.key=f.key
   ·rw [q,cb];rfl
   ·rw [dh q];exact e
  rw [e] at h
  simp only [Option.isSome_some,if_true] at h
  omega
def StL (g:Ky→Option Int) (f:Lf):Prop:=∀c,cost g f.r.price f.hs=some c→∃v,g (f.place,f.r.kind)=some v∧v≤c
theorem Di {fs:List Lf} {g:Ky→Option Int} (h:∀(j:Nat) (f:Lf),fs[j]?=some f→StL g f):iu (fs.map gr) g:=fun f' hf' c hc=>by
 obtain ⟨f,hf,rfl⟩:=List.mem_map.mp hf'
 obtain ⟨j,hj⟩:=List.mem_iff_getElem?.mp hf
 exact h j f hj c hc
theorem Bq {K:PySem.W.Frag} {n:Nat} {a:Addr} {x0 x1 x2:V} {i0 i1 i2:Nat} {σ:L2.St} {H:Hp} {Q:L2.St→Hp→Prop} (h:H a=some (.tup [x0,x1,x2])) (hn:3=n) (q:Q (((σ.set i0 (some x0)).set i1 (some x1)).set i2 (some x2)) H):Cg K n (eg (ck i0) (eg (ck i1) (eg (ck i2) gNil))) (.ref a) σ H Q:=⟨a,_,rfl,SqT.of h,hn,_,_,rfl,_,_,rfl,_,_,rfl,rfl,q⟩
theorem My {b wt:Addr} {kinds:List Str} {rs:List Rl} {ws:List V} {H:Hp} {Q:VK} {E:XK} (p0:dg H b kinds rs) (p1:H wt=some (.tup ws)) (p2:Bk kinds rs) (p3:Tw ws) (p4:∀(l:Addr) (as:List Addr) (H':Hp),ao H H'→H l=none→H' l=some (.lst (as.map V.ref))→cu H' (fun x=>H x≠none) as (pz kinds rs ws)→Q (.ref l) H'):sr [.ref b,.ref wt] H Q E:=⟨b,wt,kinds,rs,ws,rfl,p0,p1,p2,p3,p4⟩
theorem Fg {ra hl d:Addr} {r:Rl} {hs:List Ky} {g:Ky→Option Int} {n:Nat} {H:Hp} {Q:VK} {E:XK} (p0:dz H ra r) (p1:mn H hl hs) (p2:cv H d g n) (p3:Q (.int ((cost g r.price hs).getD 0)) H):m5 [.ref ra,.ref hl,.ref d] H Q E:=⟨ra,hl,d,r,hs,g,n,rfl,p0,p1,p2,p3⟩
theorem Li {fl:Addr} {as:List Addr} {fs:List Lf} {H:Hp} {Q:VK} {E:XK} (p0:H fl=some (.lst (as.map V.ref))) (p1:cu H (fun _=>False) as fs) (p2:fs.length≤1000000) (p3:(∀f∈fs,1≤f.r.price)) (p4:∀(d:Addr) (H':Hp) (g:Ky→Option Int) (ks:List Ky),ao H H'→H d=none→TbK H' d g ks→Tbl (fs.map gr) g→ks.length≤fs.length→Q (.ref d) H'):oh [.ref fl] H Q E:=⟨fl,as,fs,rfl,p0,p1,p2,p3,p4⟩
theorem Lw {fl d:Addr} {as:List Addr} {fs:List Lf} {g:Ky→Option Int} {ks:List Ky} {H:Hp} {Q:VK} {E:XK} (p0:H fl=some (.lst (as.map V.ref))) (p1:cu H (fun _=>False) as fs) (p2:fs.length≤1000000) (p3:TbK H d g ks) (p4:ks.length≤1000000) (p5:Tbl (fs.map gr) g) (p6:∀(fd:Addr) (ls:List Addr) (H':Hp),ao H H'→H fd=none→RcAt H' fd ks ls (gg fs g)→Q (.ref fd) H'):ou [.ref fl,.ref d] H Q E:=⟨fl,d,as,fs,g,ks,rfl,p0,p1,p2,p3,p4,p5,p6⟩
theorem N4 {f d:Addr} {as bs:List Addr} {xs:Vss} {H:Hp} {Q:VK} {E:XK} (p0:H f=some (.lst (as.map V.ref))) (p1:H d=some (.lst (bs.map V.ref))) (p2:as.length=xs.length) (p3:bs.length=xs.length) (p4:xs.length≤1000000) (p5:yr H as bs xs) (p6:∀H',ao H H'→Q (.bl true) H'):kb [.ref f,.ref d] H Q E:=⟨f,d,as,bs,xs,rfl,p0,p1,p2,p3,p4,p5,p6⟩
end Pc
namespace Pc
open PySem PySem.Spec L2 PyProof.Rows Fm
theorem Aa {fs:List Lf} {i:Nat} {f:Lf} (h:fs[i]?=some f) (g:Ky→Option Int) (k:Ky):gg (fs.take (i+1)) g k=gg (fs.take i) g k++if (f.place,f.r.kind)=k∧cost g f.r.price f.hs=g k then [f.r.name] else []:=by
 unfold gg
 rw [List.take_add_one,h,List.filter_append,List.map_append]
 congr 1
 show (List.filter _ [f]).map _=_
 rw [List.filter_cons]
 by_cases c:(f.place,f.r.kind)=k∧cost g f.r.price f.hs=g k
 ·rw [if_pos c,if_pos (decide_eq_true c)];rfl
 ·rw [if_neg c,if_neg (by simpa using c)];rfl
theorem vf:∀{ks:List Ky} {ls:List Addr},ls.length=ks.length→((ks.zip ls).map fun p=>(kyK p.1,V.ref p.2)).map (·.1)=ks.map kyK
 | [],_,_=>rfl
 | k::ks,[],h=>by cases h
 | k::ks,l::ls,h=>by
  show kyK k::(((ks.zip ls).map fun p=>(kyK p.1,V.ref p.2)).map (·.1))=kyK k::ks.map kyK
  rw [vf (by simpa using h)]
theorem RcAt.same {H H':Hp} {fd:Addr} {ks:List Ky} {ls:List Addr} {nm:Ky→List Str} (h:RcAt H fd ks ls nm) (s:ao H H'):RcAt H' fd ks ls nm:=⟨s _ _ h.1,h.2.1,fun j k l h1 h2=>s _ _ (h.2.2 j k l h1 h2)⟩
theorem RcAt.congr {H:Hp} {fd:Addr} {ks:List Ky} {ls:List Addr} {nm nm':Ky→List Str} (h:RcAt H fd ks ls nm) (e:∀k∈ks,nm' k=nm k):RcAt H fd ks ls nm':=⟨h.1,h.2.1,fun j k l h1 h2=>by rw [e k (List.mem_of_getElem? h1)];exact h.2.2 j k l h1 h2⟩
theorem RcAt.get {H:Hp} {fd b:Addr} {ks:List Ky} {ls:List Addr} {nm:Ky→List Str} (h:RcAt H fd ks ls nm) (nd:ks.Nodup) {k:Ky} (hb:H b=some (kyT k)) (hk:k∈ks):∃(j:Nat) (l:Addr),ks[j]?=some k∧ls[j]?=some l∧jm H fd (.ref b) (some (.ref l))∧H l=some (.lst ((nm k).map V.str)):=by
 obtain ⟨h1,h2,h3⟩:=h
 obtain ⟨j,hj⟩:=List.mem_iff_getElem?.mp hk
 have hjl:j < ls.length:=by rw [h2];exact (List.getElem?_eq_some_iff.mp hj).1
 have hl:ls[j]?=some ls[j]:=List.getElem?_eq_getElem hjl
 refine ⟨j,ls[j],hj,hl,?_,h3 j k _ hj hl⟩
 have e:cz ((ks.zip ls).map fun p=>(kyK p.1,V.ref p.2)) (kyK k)=some (V.ref ls[j]):=by
  refine Fj (by rw [vf h2];exact ka (fun a b e=>n6 e) nd) ?_
  exact List.mem_map.mpr ⟨(k,ls[j]),List.mem_of_getElem? (List.getElem?_zip_eq_some.mpr ⟨hj,hl⟩),rfl⟩
 rw [←e]
 exact jm.t h1 hb
theorem RcAt.put {H:Hp} {fd:Addr} {ks:List Ky} {ls:List Addr} {nm nm':Ky→List Str} (h:RcAt H fd ks ls nm) (nd:ks.Nodup) (nl:ls.Nodup) {j:Nat} {k:Ky} {l:Addr} {x:Str} (hj:ks[j]?=some k) (hl:ls[j]?=some l) (e:nm' k=nm k++[x]) (ne:∀k'∈ks,k'≠k→nm' k'=nm k'):RcAt (upd H l (.lst ((nm k).map V.str++[V.str x]))) fd ks ls nm':=by
 obtain ⟨h1,h2,h3⟩:=h
 have hll:=h3 j k l hj hl
 refine ⟨by rw [af (ee h1 hll (by intro z;cases z))];exact h1,h2,fun i k' l' hi hi'=>?_⟩
 by_cases c:i=j
 ·subst c
  obtain rfl:k=k':=Option.some.inj (hj.symm.trans hi)
  obtain rfl:l=l':=Option.some.inj (hl.symm.trans hi')
  rw [ae,e,List.map_append]
  rfl
 ·have n1:l'≠l:=fun z=>c ((List.getElem?_inj (List.getElem?_eq_some_iff.mp hi').1 nl).mp (by rw [hi',hl,z]))
  have n2:k'≠k:=fun z=>c ((List.getElem?_inj (List.getElem?_eq_some_iff.mp hi).1 nd).mp (by rw [hi,hj,z]))
  rw [af n1,ne k' (List.mem_of_getElem? hi) n2]
  exact h3 i k' l' hi hi'
def Ak (H0 H:Hp) (D:Addr) (ks:List Ky) (i:Nat) (cs ls:List Addr):Prop:=cs.length=i∧ls.length=i∧ls.Nodup∧∀(j:Nat) (k:Ky),j < i→ks[j]?=some k→∃c l t,cs[j]?=some c∧ls[j]?=some l∧c≠D∧t≠D∧l≠D∧H0 l=none∧H c=some (.tup [.ref t,.ref l])∧H t=some (kyT k)∧H l=some (.lst [])
theorem Ak.mono {H0 H H':Hp} {D:Addr} {ks:List Ky} {i:Nat} {cs ls:List Addr} (h:Ak H0 H D ks i cs ls) (s:∀b u,b≠D→H b=some u→H' b=some u):Ak H0 H' D ks i cs ls:=⟨h.1,h.2.1,h.2.2.1,fun j k hj hk=>by
 obtain ⟨c,l,t,h1,h2,h3,h4,h5,h6,h7,h8,h9⟩:=h.2.2.2 j k hj hk
 exact ⟨c,l,t,h1,h2,h3,h4,h5,h6,s _ _ h3 h7,s _ _ h4 h8,s _ _ h5 h9⟩⟩
theorem Ak.snoc {H0 H:Hp} {D:Addr} {ks:List Ky} {i:Nat} {cs ls:List Addr} (hi:i < ks.length) (h:Ak H0 H D ks i cs ls) {H2:Hp} {c l t:Addr} {k:Ky} (hk:ks[i]?=some k) (s:ao H H2) (hl:H l=none) (h0:H0 l=none) (nc:c≠D) (nt:t≠D) (nl:l≠D) (ec:H2 c=some (.tup [.ref t,.ref l])) (et:H2 t=some (kyT k)) (el:H2 l=some (.lst [])):Ak H0 H2 D ks (i+1) (cs++[c]) (ls++[l]):=by
 have hc:=h.1
 have hll:=h.2.1
 have h':=h.mono (H':=H2) fun b u _ e=>s _ _ e
 refine ⟨by rw [List.length_append,hc];rfl,by rw [List.length_append,hll];rfl,List.nodup_append.mpr ⟨h.2.2.1,by simp,fun a ha b hb e=>?_⟩,fun j k' hj hk'=>?_⟩
 ·rw [List.mem_singleton.mp hb] at e
  subst e
  obtain ⟨j,hj⟩:=List.mem_iff_getElem?.mp ha
  have hjl:=(List.getElem?_eq_some_iff.mp hj).1
  obtain ⟨_,l',_,_,h2,_,_,_,_,_,_,h9⟩:=h.2.2.2 j _ (by omega) (List.getElem?_eq_getElem (show j < ks.length by omega))
  obtain rfl:l'=a:=Option.some.inj (h2.symm.trans hj)
  rw [hl] at h9
  cases h9
 ·by_cases c':j < i
  ·obtain ⟨c1,l1,t1,h1,h2,r⟩:=h'.2.2.2 j k' c' hk'
   exact ⟨c1,l1,t1,by rw [List.getElem?_append_left (by omega)];exact h1,by rw [List.getElem?_append_left (by omega)];exact h2,r⟩
  ·obtain rfl:j=i:=by omega
   obtain rfl:k=k':=Option.some.inj (hk.symm.trans hk')
   exact ⟨c,l,t,by rw [List.getElem?_append_right (by omega),hc,Nat.sub_self];rfl,by rw [List.getElem?_append_right (by omega),hll,Nat.sub_self];rfl,nc,nt,nl,h0,ec,et,el⟩
theorem Cc {H H1:Hp} {d:Addr} {o:Obj} {kvs:List (List Key×V)} (hd:H d=some (.dT kvs)) (s:ao (upd H d (.frz o (.dT kvs))) H1):ao H (upd H1 d (.dT kvs)):=fun b u e=>by
 by_cases c:b=d
 ·subst c
  rw [ae,←hd]
  exact e
 ·rw [af c]
  exact s b u (by rw [af c];exact e)
end Pc
namespace Pc
open PySem PySem.Spec L2 PyProof.Rows Fm
noncomputable def rw4 (r:Rw):List V:=[.int (r.place:Int),.str r.kind,.int r.price,.str (r.names.headD "")]
theorem jl.twice {H:Hp} {as bs:List Addr} {rows:List Rw} (h:jl H as rows) (h':jl H bs rows):yr H as bs (rows.map rw4):=fun j x hx=>by
 rw [List.getElem?_map] at hx
 obtain ⟨r,hr,rfl⟩:=Option.map_eq_some_iff.mp hx
 obtain ⟨a,nm,a1,a2,a3⟩:=h.2 j r hr
 obtain ⟨b,nm',b1,b2,b3⟩:=h'.2 j r hr
 have e1:r.names.headD ""=nm:=by rw [List.headD_eq_head?_getD,a2];rfl
 have e2:r.names.headD ""=nm':=by rw [List.headD_eq_head?_getD,b2];rfl
 refine ⟨⟨a,b,a1,b1,by rw [a3,←e1];rfl,by rw [b3,←e2];rfl⟩,fun v hv=>?_,by show (4:Nat)≤1000;decide⟩
 unfold rw4 at hv
 simp only [List.mem_cons,List.not_mem_nil,or_false] at hv
 rcases hv with rfl | rfl | rfl | rfl
 ·exact ⟨Sum.inl _,rfl⟩
 ·exact ⟨Sum.inr _,rfl⟩
 ·exact ⟨Sum.inl _,rfl⟩
 ·exact ⟨Sum.inr _,rfl⟩
theorem zq {kinds:List Str} {rs:List Rl} {ws:List V} {g:Ky→Option Int} (T:Tbl (qm kinds rs ws) g) {r:Rw} (h:r∈rowsOf kinds rs ws g):∃nm,r.names.head?=some nm∧(gg (pz kinds rs ws) g (jj r)).head?=some nm:=by
 obtain ⟨nm,hn⟩:=vq T h
 obtain ⟨m1,m2,m3⟩:=t8 h
 refine ⟨nm,hn,?_⟩
 unfold jj
 rw [J0 m2 m1,←m3]
 exact hn
theorem Hl {ks:List (Int×Str)} {d:Int×Str} {i j:Nat} (h:ks.getD i d=ks.getD j d):rank ks.length (fun i j=>ltK (ks.getD i d) (ks.getD j d)) i=rank ks.length (fun i j=>ltK (ks.getD i d) (ks.getD j d)) j:=by
 unfold rank
 dsimp only
 rw [h]
theorem TbK.keys {H:Hp} {d:Addr} {g:Ky→Option Int} {ks:List Ky} {kvs:List (List Key×V)} (h2:kvs.map (·.1)=ks.map kyK) {ts:List Addr} (hts:∀(i:Nat) (k:List Key) (v:V),kvs[i]?=some (k,v)→∃t,ts[i]?=some t∧H t=some (.tup (k.map kV))) {i:Nat} (hi:i < ks.length):H (ts.getD i 0)=some (kyT (ks.getD i (0,""))):=by
 have hl:kvs.length=ks.length:=by
  have:=congrArg List.length h2
  rw [List.length_map,List.length_map] at this
  exact this
 have hk:kvs[i]?=some (kvs[i]'(by omega)):=List.getElem?_eq_getElem (by omega)
 obtain ⟨t,e1,e2⟩:=hts i _ _ (show kvs[i]?=some ((kvs[i]'(by omega)).1,(kvs[i]'(by omega)).2) from hk)
 have e:=congrArg (fun l=>l[i]?) h2
 simp only [List.getElem?_map,hk,Option.map_some,List.getElem?_eq_getElem hi] at e
 rw [Option.some.inj e] at e2
 rw [List.getD_eq_getElem?_getD,e1,List.getD_eq_getElem?_getD,List.getElem?_eq_getElem hi]
 exact e2
end Pc
namespace Pc
open PySem PySem.Spec L2 PyProof.Rows Fm
theorem Gy {zs:List Str} {i j:Nat} (hi:i < (zs.map V.str).length) (hj:j < (zs.map V.str).length) (e:(zs.map V.str).getD i .non=(zs.map V.str).getD j .non):rank zs.length (fun i j=>ltS (zs.getD i "") (zs.getD j "")) i=rank zs.length (fun i j=>ltS (zs.getD i "") (zs.getD j "")) j:=by
 rw [List.length_map] at hi hj
 rw [getD_map V.str zs i "" .non hi,getD_map V.str zs j "" .non hj] at e
 unfold rank
 dsimp only
 rw [V.str.inj e]
end Pc
namespace K42
open PySem PySem.Spec L2 PyProof.Rows Pc
set_option hygiene false
set_option compiler.extract_closed false
local macro_rules | `(tactic| push_cast [$xs,*])=>`(tactic| simp only [↓Gk,↓Og,↓Mn,↓M9,↓exists_eq_left,↓exists_eq_left',↓int_ex,↓ref_ex,↓bl_ex,↓Nx,tm,Cy,rID,rUD,tBD,Cs,Ko,Lb,Jk,tSeq,tIfS,tRet,tRetN,tNext,tVar,tC,Bh,tB,tOp,tUn,rI,rI0,rU,rEq,rNe,Lo,tCB,tCons,tNil,tAnd,tOr,tNot,tAndV,tOrV,tNotV,tIf,ck,tAsg,tBM,tBM0,tSl,Em,Hs,rSlS,rSlL,tLst,tTup,tDrop,tNoIf,iStr,iList,iTup,iRng1,iRng2,tLC,Js,wg,List.set_cons_zero,List.set_cons_succ,List.getElem?_cons_zero,List.getElem?_cons_succ,Option.some.injEq,V.int.injEq,V.str.injEq,V.bl.injEq,V.ref.injEq,List.cons.injEq,exists_eq_left,exists_eq_left',exists_eq_right,exists_eq_right',exists_and_left,exists_and_right,and_true,true_and,List.cons_append,List.nil_append,List.append_nil,reduceCtorEq,false_and,exists_false,false_or,or_false,decide_eq_true_eq,eq_self,if_true,if_false,Bool.false_eq_true,Bool.true_eq_false,cxOf_K,cxOf_P,cxOf_w,M5,cxOf_b,List.map_cons,List.map_nil,Option.getD_some,Option.getD_none,exists_const,nox_K,and_assoc,exists_eq,exists_eq',V.ty.injEq,tVals,Int.reduceLT,Int.reduceLE,Int.reduceNeg,Int.reducePow,Nat.reduceLT,Nat.reduceLeDiff,L6,Of,ox,tCallV,tDIn,Fh,tDGet,iRev,tDNewK,sDPut,and_self,exists_prop,$xs,*])
set_option hygiene true
set_option compiler.extract_closed true
noncomputable def top (i:Nat):Stmt:=PySem.Challenge.pw_pricecover_k42_prices.main.body.getD i (.Pass ⟨0,0,0,0⟩)
structure Gs (w:World) (K:PySem.W.Frag) (mg:Str→Option Value):Prop where
 m_all:mg "all"=none
 m_bool:mg "bool"=none
 m_dict:mg "dict"=none
 m_int:mg "int"=none
 m_isinstance:mg "isinstance"=none
 m_len:mg "len"=none
 m_list:mg "list"=none
 m_range:mg "range"=none
 m_reversed:mg "reversed"=none
 m_sorted:mg "sorted"=none
 m_str:mg "str"=none
 m_tuple:mg "tuple"=none
 m_zip:mg "zip"=none
 m_PARTS_BELOW:∃a,mg "PARTS_BELOW"=some (.ref a)∧ModD w K a [(Sum.inr "add",.int 2),(Sum.inr "sub",.int 2),(Sum.inr "mul",.int 2),(Sum.inr "neg",.int 1)]
def Dv (K:PySem.W.Frag):Sp:=fun vs H Q _=>∃(a:Addr) (ns:List Int),vs=[.ref a]∧SqL K H a (ns.map V.int)∧ns.length≤63∧∀H',Q (.bl true) H'
def spT:Sp:=fun vs H Q _=>False
set_option hygiene false
local macro_rules
 | `(A0 $a)=>`(@pl _ $a _ _ rfl rfl (by decide))
 | `(A1 $a $b)=>`(@ye _ _ _ _ _ $a $b rfl)
 | `(A2 $_)=>`(@J1 _)
 | `(A3 $_)=>`(@Lc _ _ _ _)
 | `(A4 $a $b)=>`(@K2 _ _ _ _ _ $a $b)
 | `(A5 $a $b $c)=>`(@pe_op _ _ _ _ _ _ _ _ $a $b $c)
 | `(A6 $a)=>`(@Ng _ _ _ $a)
 | `(A7 $a $b $c)=>`(@Lp _ _ $a _ _ _ _ $b rfl (Or.inl rfl) $c rfl (.inl rfl))
 | `(A8 $a)=>`(@pk _ $a _ _ rfl rfl (by decide))
 | `(A9 $a $b $c)=>`(@pe_ix _ _ _ _ _ _ _ $a $b $c (fun _ _=>rfl))
 | `(AA $a $b $c $d)=>`(@Lz _ _ _ _ _ _ _ _ _ $a rfl $b $c $d (by decide) (by decide) rfl rfl)
 | `(AB $_)=>`(@nomark _ _ (by decide) (by decide))
 | `(AC $a)=>`(@ps_ret _ _ _ _ $a)
 | `(AD $a $b $c)=>`(@ps_if _ _ _ _ _ _ _ _ $a $b $c)
 | `(AE $a $b $c $d)=>`(@Ap _ _ _ _ _ _ _ _ $a $b $c $d)
 | `(AF $_)=>`(@Ny _)
 | `(AG $a $b $c)=>`(@pe_has _ _ _ _ _ _ _ _ _ _ $a $b $c rfl (by decide+kernel) rfl rfl)
 | `(AH $a)=>`(@pe_lst _ _ _ _ $a)
 | `(AI $a)=>`(@zj.str _ _ _ _ _ $a)
 | `(AJ $_)=>`(@op_eq _)
 | `(AK $a $b)=>`(@pe_gty _ _ _ _ $a $b rfl (by decide+kernel) (by decide+kernel))
 | `(AL $a)=>`(@pe_tup _ _ _ _ _ $a)
 | `(AM $_)=>`(@K4 _ _ _ _)
 | `(AN $_)=>`(@Oj _)
 | `(AO $_)=>`(@M8 _)
 | `(AQ $a)=>`(@O4 _ _ _ _ $a rfl)
 | `(AR $a $b $c)=>`(@Du _ _ $a _ $b rfl $c (.inl rfl))
 | `(AS $a $b $c $d $e $f)=>`(@pe_bm _ _ _ _ _ _ _ _ _ _ _ _ $a $b $c $d $e $f rfl rfl rfl rfl rfl)
 | `(AT $_)=>`(@Bm _)
 | `(AU $_)=>`(@J8 _)
 | `(AV $_)=>`(@wc _)
 | `(AW $_)=>`(@Jq _)
 | `(AX $_)=>`(@xx _)
 | `(AY $_)=>`(@Fo _)
 | `(AZ $a $b)=>`(@Jn _ _ _ _ _ $a $b rfl)
 | `(B0 $a $b $c)=>`(@ps_for _ _ _ _ _ _ _ _ PassesOwn.never rfl $a $b $c (by intro _;rfl))
 | `(B6 $a)=>`(@Mp _ _ _ $a (by intro _;rfl))
 | `(B7 $a $b $c $d)=>`(@Gv _ _ _ _ _ _ _ _ _ $a rfl $b $c $d (by decide) (by decide) rfl rfl)
 | `(B8 $_)=>`(@L7 _)
 | `(B9 $a $b)=>`(@Du _ _ $a _ $b rfl (Or.inl rfl) (.inr rfl))
 | `(BB $a $b)=>`(@pe_and _ _ _ _ _ _ _ $a $b)
 | `(BC $a $b $c $d)=>`(@yt _ _ _ _ _ _ _ _ $a $b $c $d)
 | `(BD $a)=>`(@PW.pt _ _ _ $a)
 | `(BE $a)=>`(@pe_one _ _ _ _ _ $a)
 | `(BF $a)=>`(@Ih _ _ _ $a)
 | `(BG $_)=>`(@zj.nil)
 | `(BH $a)=>`(@zj.int _ _ _ _ _ $a)
 | `(BI $a $b $c)=>`(@Ml _ _ _ _ _ _ $a $b $c (fun _ _=>rfl))
 | `(BJ $_)=>`(@ui _)
 | `(BK $a $b $c $d $e)=>`(@jk.mk _ _ $a $b $c _ rfl rfl rfl rfl $d rfl $e)
 | `(BL $_)=>`(@pe_bl _ _ _ _)
 | `(BM $a $b)=>`(@Mx _ _ _ _ _ $a $b)
 | `(BN $a)=>`(@Nz _ _ _ _ $a)
 | `(BO $a $b)=>`(@pw_and _ _ _ _ _ _ _ $a $b)
 | `(BP $a $b $c)=>`(@Ap _ _ _ _ _ _ _ _ $a $b $c (by with_unfolding_all rfl))
 | `(BQ $a)=>`(@Np _ _ _ _ $a)
 | `(BR $a $b $c $d $e)=>`(@pe_lc _ _ _ _ _ _ _ _ _ _ _ _ _ _ _ $a rfl $b $c $d $e (by intro _;rfl))
 | `(BS $a $b)=>`(@G5 _ _ _ _ _ _ rfl $a $b rfl)
 | `(BT $_)=>`(@Cq _)
 | `(BU $_)=>`(@xb _)
 | `(BV $a $b)=>`(@L5 _ _ _ _ _ _ $a $b)
 | `(BW $a)=>`(@pi_tup _ _ _ _ $a)
 | `(BX $a)=>`(@pt_not _ _ _ _ $a)
 | `(BY $a $b)=>`(@pw_or _ _ _ _ _ _ _ $a $b)
 | `(BZ $a)=>`(@pw_or1 _ _ _ _ $a)
 | `(C0 $a)=>`(@Ii _ $a rfl)
 | `(C1 $a $b $c)=>`(@Lp _ _ $a _ _ _ _ $b rfl (Or.inr rfl) $c rfl (.inl rfl))
 | `(C2 $_)=>`(@zf _)
 | `(C3 $a $b)=>`(@K5 _ _ _ _ _ _ PassesOwn.never $a $b)
 | `(C4 $a)=>`(@Jo _ _ _ _ _ _ rfl $a rfl rfl)
 | `(C5 $a $b)=>`(@pe_un _ _ _ _ _ _ $a $b)
 | `(C6 $a $b $c $d $e)=>`(@pe_bm0 _ _ _ _ _ _ _ _ _ $a $b $c $d $e rfl rfl)
 | `(C7 $a $b $c $d)=>`(@Iu _ _ _ _ _ _ _ _ _ _ $a $b $c $d)
 | `(C8 $a)=>`(@Ku _ _ _ $a)
 | `(C9 $a $b $c)=>`(@Gx _ _ _ _ _ $a $b $c)
 | `(CA $a $b $c)=>`(@Jt _ _ _ _ _ _ _ _ $a $b $c)
 | `(CB $a $b $c)=>`(@Kw _ _ _ _ _ _ _ _ _ $a $b $c)
set_option hygiene true
section
variable {P:Program} {w:World} {K:PySem.W.Frag} {mg:Str→Option Value} {base:Heap} {k:Nat}
noncomputable abbrev Dd:Stmt:=top 2
theorem scHow:az ["word"] ["word"] (ah Dd):=⟨rfl,rfl,rfl,by decide+kernel,rfl,by decide+kernel,by decide+kernel⟩
theorem hasHow (G:Gs w K mg) (D:Def K mg "how_many_below" Dd ["word"]):Has P w K mg base (k+1) "how_many_below" ["word"] tj:=by
 refine D.has scHow (fun vs H Q E h=>?_) (fun f cdv A outer s H vs Q E hr h=>?_)
 ·obtain ⟨_,rfl,_,_⟩:=h
  rfl
 have nd:=scHow.nd
 have hu:=b7 hr
 have hu0:=Nat.lt_of_succ_lt hu
 obtain ⟨v,rfl,hw,q⟩:=h
 obtain ⟨a_PARTS_BELOW,m_PARTS_BELOW,s_PARTS_BELOW⟩:=G.m_PARTS_BELOW
 refine ⟨_,(A6 (AC (@Km _ _ _ _ _ _ _ _ _ _ (@Me _ _ _ _ m_PARTS_BELOW rfl (by decide+kernel)) s_PARTS_BELOW (A0 0) (A3 0) (@M2.mk _ _ _ _ _ _ _ rfl rfl rfl rfl)))),?_⟩
 rw [show start ["word"] [v]=[some (v)] from rfl]
 clear hu hu0 nd hr
 push_cast [Ic]
 obtain ⟨k,rfl⟩:=hw
 refine ⟨k,rfl,?_⟩
 show Q ((cz parts k).getD (V.int 0)) H
 rw [Hn]
 exact q
noncomputable abbrev ja:Stmt:=top 3
theorem Am:az ["words","place","lacking","at"] ["words","place"] (ah ja):=⟨rfl,rfl,rfl,by decide+kernel,rfl,by decide+kernel,by decide+kernel⟩
theorem G2 (G:Gs w K mg) (h_how_many_below:Has P w K mg base k "how_many_below" ["word"] tj) (D:Def K mg "place_behind" ja ["words","place"]):Has P w K mg base (k+1) "place_behind" ["words","place"] (vk K):=by
 refine D.has Am (fun vs H Q E h=>?_) (fun f cdv A outer s H vs Q E hr h=>?_)
 ·obtain ⟨_,_,_,_,rfl,_,_,_,_,_⟩:=h
  rfl
 have nd:=Am.nd
 have hu:=b7 hr
 have hu0:=Nat.lt_of_succ_lt hu
 obtain ⟨t,ws,p,n,rfl,hT,hw,hl,he,q⟩:=h
 refine ⟨_,(A4 (A7 2 nd (A3 0)) (A4 (A7 3 nd (A0 1)) (A4 (C3 (AE (@i7 _) (A0 2) (A3 0) (AB 0)) (A4 (A7 2 nd (A5 (AO 0) (A5 (B8 0) (A0 2) (A3 0)) (AG h_how_many_below hr (A1 (A9 (AW 0) (A0 0) (A0 3)) (A2 0))))) (A6 (A7 3 nd (A5 (AO 0) (A0 3) (A3 0)))))) (A6 (AC (A0 3)))))),?_⟩
 rw [show start ["words","place","lacking","at"] [.ref t,.int (p:Int)]=[some (.ref t),some (.int (p:Int)),none,none] from rfl]
 clear hu hu0 nd hr
 push_cast [tj]
 have hn:=uj _ _ _ he
 rw [List.length_map,List.length_drop] at hn
 refine j5 (fun σ H'=>∃(d j:Nat),σ=[some (.ref t),some (.int (p:Int)),some (.int (d:Int)),some (.int ((p+j:Nat):Int))]∧H'=H∧j≤n∧eat d ((ws.drop (p+j)).map arV)=some (n - j))
  (fun σ _=>p+n - intAt σ 3) ⟨1,0,rfl,rfl,Nat.zero_le _,he⟩ ?_ ?_
 ·rintro σ H' ⟨d,j,rfl,rfl,hj,hd⟩
  push_cast [tj]
  refine b8 (fun c=>?_) fun c=>?_
  ·obtain ⟨d',rfl⟩:∃d',d=d'+1:=⟨d - 1,by omega⟩
   have hpos:=yo _ _ _ hd
   have hlt:p+j < ws.length:=by omega
   have ed:ws.drop (p+j)=ws[p+j]::ws.drop (p+j+1):=List.drop_eq_getElem_cons hlt
   rw [ed,List.map_cons,dn] at hd
   obtain ⟨m,hm,em⟩:=Option.map_eq_some_iff.mp hd
   refine ⟨t,ws,((p+j:Nat):Int),ws[p+j],rfl,rfl,hT,ax (List.getElem?_eq_getElem hlt),hw _ (List.getElem_mem hlt),⟨d'+arV ws[p+j],by omega,j+1,by omega,rfl,by omega,?_⟩,?_⟩
   ·rw [show n - (j+1)=m by omega]
    exact hm
   ·show p+n - (((p+j:Nat):Int)+1).toNat < p+n - (((p+j:Nat):Int)).toNat
    omega
  ·have d0:d=0:=by omega
   subst d0
   rw [j4] at hd
   have:n - j=0:=(Option.some.inj hd).symm
   have e:((p+j:Nat):Int)=(p:Int)+(n:Int):=by omega
   rw [e]
   exact q H' (ao.refl _)
 ·intro σ H' Q1 Q2 hq h
  simp only [Bh,tOp,rI0,ik,tC,jv,i6,tB] at h ⊢
  obtain ⟨v,hv,i,j,e1,e2,k,e3,h⟩:=h
  exact ⟨v,hv,i,j,e1,e2,k,e3,hq _ _ h⟩
noncomputable abbrev um:Stmt:=top 5
theorem Ka:az ["word","kinds"] ["word","kinds"] (ah um):=⟨rfl,rfl,rfl,by decide+kernel,rfl,by decide+kernel,by decide+kernel⟩
theorem Od (G:Gs w K mg) (D:Def K mg "leaf_letter" um ["word","kinds"]):Has P w K mg base (k+1) "leaf_letter" ["word","kinds"] (jd K):=by
 refine D.has Ka (fun vs H Q E h=>?_) (fun f cdv A outer s H vs Q E hr h=>?_)
 ·obtain ⟨_,_,_,rfl,_,_,_⟩:=h
  rfl
 have nd:=Ka.nd
 have hu:=b7 hr
 have hu0:=Nat.lt_of_succ_lt hu
 obtain ⟨v,kt,kinds,rfl,hv,hK,q⟩:=h
 refine ⟨_,(A4 (AD (AE (AJ 0) (A0 0) (AM 0) (AB 0)) (A6 (AC (AM 0))) (AN 0)) (A4 (AD (AE (AJ 0) (A0 0) (AM 0) (AB 0)) (A6 (AC (AM 0))) (AN 0)) (A6 (AC (CA (BP (BU 0) (A0 0) (A0 1)) (AM 0) (AM 0)))))),?_⟩
 rw [show start ["word","kinds"] [v,.ref kt]=[some (v),some (.ref kt)] from rfl]
 clear hu hu0 nd hr
 push_cast [rIn]
 have fl:(kinds.map V.str).all gw=true:=List.all_eq_true.mpr fun x hx=>by obtain ⟨z,_,rfl⟩:=List.mem_map.mp hx;rfl
 unfold cf gq gb lN lV lH lO at q
 refine ⟨hv.sc _,b8 (fun e=>?_) fun n1=>⟨hv.sc _,b8 (fun e=>?_) fun n2=>⟨_,.inr hK,hv.flat,fl,b8 (fun e=>?_) fun e=>?_⟩⟩⟩
 ·rw [if_pos e] at q
  exact q
 ·rw [if_neg n1,if_pos e] at q
  exact q
 ·rw [if_neg n1,if_neg n2,if_pos e] at q
  exact q
 ·rw [if_neg n1,if_neg n2,if_neg e] at q
  exact q
noncomputable abbrev vw:Stmt:=top 7
theorem Ig:az ["letter","shape_word","word"] ["letter","shape_word","word"] (ah vw):=⟨rfl,rfl,rfl,by decide+kernel,rfl,by decide+kernel,by decide+kernel⟩
theorem O2 (G:Gs w K mg) (h_how_many_below:Has P w K mg base k "how_many_below" ["word"] tj) (D:Def K mg "lies_upon" vw ["letter","shape_word","word"]):Has P w K mg base (k+1) "lies_upon" ["letter","shape_word","word"] ze:=by
 refine D.has Ig (fun vs H Q E h=>?_) (fun f cdv A outer s H vs Q E hr h=>?_)
 ·obtain ⟨_,_,_,rfl,_,_,_⟩:=h
  rfl
 have nd:=Ig.nd
 have hu:=b7 hr
 have hu0:=Nat.lt_of_succ_lt hu
 obtain ⟨l,v,x,rfl,hv,hx,q⟩:=h
 have m_isinstance:=G.m_isinstance
 have m_str:=G.m_str
 refine ⟨_,(A4 (AD (AE (AJ 0) (A0 0) (AM 0) (AB 0)) (A6 (AC (BL 0))) (AN 0)) (A4 (AD (AE (AJ 0) (A0 0) (AM 0) (AB 0)) (A6 (AC (@yi _ _ _ _ (AA (AT 0) m_isinstance ak (A1 (A0 2) (A1 (AK m_str ky) (A2 0))))))) (AN 0)) (A4 (AD (AE (AJ 0) (A0 0) (AM 0) (AB 0)) (A6 (AC (BB (AA (AT 0) m_isinstance ak (A1 (A0 2) (A1 (AK m_str ky) (A2 0)))) (BE (BC (AJ 0) (AG h_how_many_below hr (A1 (A0 2) (A2 0))) (A3 0) (AB 0)))))) (AN 0)) (A6 (AC (BC (AJ 0) (A0 1) (A0 2) (AB 0))))))),?_⟩
 rw [show start ["letter","shape_word","word"] [.str l,v,x]=[some (.str l),some (v),some (x)] from rfl]
 clear hu hu0 nd hr
 push_cast [tj]
 unfold lies lH lN lV at q
 refine ⟨rfl,b8 (fun e=>?_) fun n1=>⟨rfl,b8 (fun e=>?_) fun n2=>⟨rfl,b8 (fun e=>?_) fun n3=>⟨hv.sc2 hx,?_⟩⟩⟩⟩
 ·rw [if_pos e] at q
  exact q
 ·rw [if_neg n1,if_pos e] at q
  obtain ⟨k',rfl⟩:=hx
  cases k' with
  | inl i=>exact ⟨_,.int i,false,rfl,q⟩
  | inr z=>exact ⟨_,.str z,true,rfl,q⟩
 ·rw [if_neg n1,if_neg n2,if_pos e] at q
  have hx':=hx
  obtain ⟨k',rfl⟩:=hx
  cases k' with
  | inl i=>exact ⟨_,.int i,false,rfl,qj q⟩
  | inr z=>
   refine ⟨_,.str z,true,rfl,wd ⟨hx',rfl,?_⟩⟩
   rw [show decide (((arV (kV (Sum.inr z)):Nat):Int)=0)=decide (arV (kV (Sum.inr z))=0) from decide_eq_decide.mpr (by omega)]
   exact q
 ·rw [if_neg n1,if_neg n2,if_neg n3] at q
  exact q
noncomputable abbrev uu:Stmt:=top 8
theorem K1:az ["shape","kinds","words","place","under","at","shape_word","letter"] ["shape","kinds","words","place"] (ah uu):=⟨rfl,rfl,rfl,by decide+kernel,rfl,by decide+kernel,by decide+kernel⟩
theorem Nd (G:Gs w K mg) (h_leaf_letter:Has P w K mg base k "leaf_letter" ["word","kinds"] (jd K)) (h_lies_upon:Has P w K mg base k "lies_upon" ["letter","shape_word","word"] ze) (h_place_behind:Has P w K mg base k "place_behind" ["words","place"] (vk K)) (D:Def K mg "laid" uu ["shape","kinds","words","place"]):Has P w K mg base (k+1) "laid" ["shape","kinds","words","place"] (yc K):=by
 refine D.has K1 (fun vs H Q E h=>?_) (fun f cdv A outer s H vs Q E hr h=>?_)
 ·obtain ⟨_,_,_,_,_,_,_,_,rfl,_,_,_,_,_,_,_,_,_,_,_⟩:=h
  rfl
 have nd:=K1.nd
 have hu:=b7 hr
 have hu0:=Nat.lt_of_succ_lt hu
 obtain ⟨st,kt,wt,sh,kinds,ws,p,n,rfl,hS,hK,hW,hk,hs,hw,hTm,he,hl1,hl2,q⟩:=h
 have m_tuple:=G.m_tuple
 refine ⟨_,(A4 (A7 4 nd (@Ni _ _ _ _ _ (CB (AM 0) (AH (A2 0)) (CB (AM 0) (AH (A2 0)) (CB (AM 0) (AH (A2 0)) (@Nw _ _)))) rfl rfl (fun e=>nomatch e) (by decide))) (A4 (A7 5 nd (A0 3)) (A4 (B0 (BW (A0 0)) (AR 6 nd (by first | exact Or.inl rfl | exact Or.inr rfl)) (A4 (A7 7 nd (AG h_leaf_letter hr (A1 (A0 6) (A1 (A0 1) (A2 0))))) (A4 (AD (BX (B6 (AG h_lies_upon hr (A1 (A0 7) (A1 (A0 6) (A1 (A9 (AW 0) (A0 2) (A0 5)) (A2 0))))))) (A6 (AC (@By _ _ _))) (AN 0)) (BM (AD (AE (@Af _) (A0 7) (AM 0) (AB 0)) (A6 (AQ (AS PySem.F.plainAttrs_list PySem.F.slot_list_append PySem.F.type_list_append (AX 0) (BI hu (A0 4) (A0 7)) (A1 (CA (AE (AJ 0) (A0 7) (AM 0) (AB 0)) (A0 5) (A9 (AW 0) (A0 2) (A0 5))) (A2 0))))) (AN 0)) (A6 (A7 5 nd (CA (AE (AJ 0) (A0 7) (AM 0) (AB 0)) (AG h_place_behind hr (A1 (A0 2) (A1 (A0 5) (A2 0)))) (A5 (AO 0) (A0 5) (A3 0))))))))) (A6 (AC (AL (A1 (B7 (BJ 0) m_tuple bq (A1 (BI hu (A0 4) (AM 0)) (A2 0))) (A1 (B7 (BJ 0) m_tuple bq (A1 (BI hu (A0 4) (AM 0)) (A2 0))) (A1 (B7 (BJ 0) m_tuple bq (A1 (BI hu (A0 4) (AM 0)) (A2 0))) (A2 0)))))))))),?_⟩
 rw [show start ["shape","kinds","words","place","under","at","shape_word","letter"] [.ref st,.ref kt,.ref wt,.int (p:Int)]=[some (.ref st),some (.ref kt),some (.ref wt),some (.int (p:Int)),none,none,none,none] from rfl]
 clear hu hu0 nd hr
 push_cast [tDisp,yy]
 have sz:=sizeLine_eq
 refine fun u0 h0=>⟨Nat.zero_le _,fun l1 h1=>⟨Nat.zero_le _,fun l2 h2=>⟨Nat.zero_le _,fun l3 h3=>⟨aa h3 _ _ _ (aa h2 _ _ _ (aa h1 _ _ _ ae)),[(Sum.inr lH,.ref l1),(Sum.inr lN,.ref l2),(Sum.inr lV,.ref l3)],rfl,by show (3:Nat)≤15;decide,?_⟩⟩⟩⟩
 rw [show pj [] [(Sum.inr lH,V.ref l1),(Sum.inr lN,V.ref l2),(Sum.inr lV,V.ref l3)]=[(Sum.inr lH,V.ref l1),(Sum.inr lN,V.ref l2),(Sum.inr lV,V.ref l3)] from rfl]
 have n10:l1≠u0:=(ag ae h1).symm
 have n20:l2≠u0:=(ag (aa h1 _ _ _ ae) h2).symm
 have n30:l3≠u0:=(ag (aa h2 _ _ _ (aa h1 _ _ _ ae)) h3).symm
 have n21:l2≠l1:=(ag ae h2).symm
 have n31:l3≠l1:=(ag (aa h2 _ _ _ ae) h3).symm
 have n32:l3≠l2:=(ag ae h3).symm
 have S1:=aa h0 (.dK [])
 have f1:=S1.free h1
 have S2:=S1.trans (aa h1 (.lst []))
 have f2:=S2.free h2
 have S3:=S2.trans (aa h2 (.lst []))
 have f3:=S3.free h3
 have S4:=(S3.trans (aa h3 (.lst []))).upd h0 (.dK [(Sum.inr lH,V.ref l1),(Sum.inr lN,V.ref l2),(Sum.inr lV,V.ref l3)])
 have U4:UAt (upd (upd (upd (upd (upd H u0 (.dK [])) l1 (.lst [])) l2 (.lst [])) l3 (.lst [])) u0 (.dK [(Sum.inr lH,V.ref l1),(Sum.inr lN,V.ref l2),(Sum.inr lV,V.ref l3)])) u0 l1 l2 l3 ⟨[],[],[]⟩:=
  ⟨ae,by rw [af n10,af n31.symm,af n21.symm,ae];rfl,by rw [af n20,af n32.symm,ae],by rw [af n30,ae]⟩
 generalize upd (upd (upd (upd (upd H u0 (.dK [])) l1 (.lst [])) l2 (.lst [])) l3 (.lst [])) u0 (.dK [(Sum.inr lH,V.ref l1),(Sum.inr lN,V.ref l2),(Sum.inr lV,V.ref l3)])=H4 at S4 U4 ⊢
 obtain ⟨P1,eP1⟩:∃P1:Nat→L2.St→Hp→Prop,∀i σ H',P1 i σ H'↔∃(q':Nat) (u:Und) (v6 v7:Option V),σ=[some (.ref st),some (.ref kt),some (.ref wt),some (.int (p:Int)),some (.ref u0),some (.int (q':Int)),v6,v7]∧ao H H'∧UAt H' u0 l1 l2 l3 u∧dk kinds ws (sh.drop i) q' u=dk kinds ws sh p ⟨[],[],[]⟩∧(u.hs.length≤i∧u.ns.length≤i∧u.vs.length≤i)∧Co u∧∃d m,pend d ((sh.drop i).map arV)=some 0∧eat d ((ws.drop q').map arV)=some m:=⟨_,fun _ _ _=>Iff.rfl⟩
 refine ⟨⟨sh,S4.tup hS⟩,m6 (xs:=sh) P1 ((eP1 _ _ _).mpr ⟨p,⟨[],[],[]⟩,none,none,rfl,S4,U4,rfl,⟨Nat.zero_le _,Nat.zero_le _,Nat.zero_le _⟩,⟨(fun _ h=>nomatch h),(fun _ h=>nomatch h)⟩,1,n,hTm,he⟩) (fun i σ H' _ h=>by obtain ⟨_,_,_,_,_,s,_⟩:=(eP1 _ _ _).mp h;exact s.tup hS) ?_ ?_⟩
 ·intro i v σ H5 hvi hh
  refine ob4 ((eP1 _ _ _).mp hh) fun q' u v6 v7 hh=>?_
  have s5:=hh.2.1
  have U5:=hh.2.2.1
  have e5:=hh.2.2.2.1
  have hul:=hh.2.2.2.2.1
  have huw:=hh.2.2.2.2.2.1
  have hdm:=hh.2.2.2.2.2.2
  obtain rfl:=hh.1
  clear hh
  obtain ⟨d,m,hp5,he5⟩:=hdm
  have fin:∀(q2:Nat) (z:Int) (u2:Und) (w6 w7:Option V) (H':Hp),z=(q2:Int)→ao H H'→UAt H' u0 l1 l2 l3 u2→dk kinds ws (sh.drop (i+1)) q2 u2=dk kinds ws sh p ⟨[],[],[]⟩→(u2.hs.length≤i+1∧u2.ns.length≤i+1∧u2.vs.length≤i+1)→Co u2→(∃d m,pend d ((sh.drop (i+1)).map arV)=some 0∧eat d ((ws.drop q2).map arV)=some m)→P1 (i+1) [some (.ref st),some (.ref kt),some (.ref wt),some (.int (p:Int)),some (.ref u0),some (.int z),w6,w7] H':=fun q2 z u2 w6 w7 H' ez a1 a2 a3 a4 a5 a6=>(eP1 _ _ _).mpr ⟨q2,u2,w6,w7,by rw [ez],a1,a2,a3,a4,a5,a6⟩
  have hil:i < sh.length:=(List.getElem?_eq_some_iff.mp hvi).1
  have ed:sh.drop i=v::sh.drop (i+1):=by
   rw [List.drop_eq_getElem_cons hil]
   congr 1
   rw [List.getElem?_eq_getElem hil] at hvi
   exact Option.some.inj hvi
  rw [ed] at e5 hp5
  obtain ⟨d',rfl⟩:∃d',d=d'+1:=by
   cases d with
   | zero=>cases hp5
   | succ d'=>exact ⟨d',rfl⟩
  have hq:q' < ws.length:=by
   have a1:=yo _ _ _ he5
   have a2:=uj _ _ _ he5
   rw [List.length_map,List.length_drop] at a2
   omega
  have hx:ws[q']?=some ws[q']:=List.getElem?_eq_getElem hq
  have hxw:=hw _ (List.getElem_mem hq)
  have hat:atI ws (q':Int)=some ws[q']:=ax hx
  have hvw:=hs v (List.mem_of_getElem? hvi)
  have hgd:ws.getD q' .non=ws[q']:=by rw [List.getD_eq_getElem?_getD,hx];rfl
  rw [mi,hgd] at e5
  generalize ws[q']=x at hx hxw hat hgd e5
  push_cast [and_true]
  refine O0 hvw (s5.tup hK) ?_
  push_cast [and_true]
  refine ⟨wt,ws,(q':Int),x,rfl,rfl,s5.tup hW,hat,mkLies hvw hxw ?_⟩
  push_cast [and_true]
  cases hli:lies (cf kinds v) v x with
  | false=>
   rw [hli,if_neg (by decide)] at e5
   rw [if_pos (show (!false)=true from rfl)]
   have z:=q H5 s5
   rw [←e5] at z
   exact z
  | true=>
   rw [hli,if_pos rfl] at e5
   rw [if_neg (show ¬(!true)=true by decide)]
   obtain ⟨d2,m2,hp6,he6⟩:=ij hk hvw hx hxw hp5 he5 hli
   have hul':=u.Ey (cf kinds v) q' x hul
   have huw':=huw.put hxw (cf kinds v) q'
   obtain ⟨b1,b2,b3,b4,b5,b6⟩:=lets
   refine d4 (fun σ' H6=>σ'=[some (.ref st),some (.ref kt),some (.ref wt),some (.int (p:Int)),some (.ref u0),some (.int (q':Int)),some v,some (.str (cf kinds v))]∧ao H H6∧UAt H6 u0 l1 l2 l3 (u.put (cf kinds v) q' x)) ?_ ?_
   ·push_cast [and_true]
    refine ⟨rfl,?_⟩
    rcases fm (kinds:=kinds) hvw with ⟨_,h⟩ | ⟨_,h⟩ | ⟨_,h⟩ | ⟨h,_⟩
    ·rw [h,if_pos (by decide+kernel)]
     refine ⟨_,U5.get2,av U5.2.2.1,rfl,?_⟩
     rw [if_neg (show ¬lN=Str.ofString "h" from b1)]
     exact ⟨wt,ws,_,x,rfl,rfl,s5.tup hW,hat,(bj (K:=K) U5.2.2.1 (by omega) ⟨s5.upd f2 _,U5.put2 n20 n21 n32 q' x⟩).2⟩
    ·rw [h,if_pos (by decide+kernel)]
     refine ⟨_,U5.get3,av U5.2.2.2,rfl,?_⟩
     rw [if_neg (show ¬lV=Str.ofString "h" from b2)]
     exact ⟨wt,ws,_,x,rfl,rfl,s5.tup hW,hat,(bj (K:=K) U5.2.2.2 (by omega) ⟨s5.upd f3 _,U5.put3 n30 n31 n32 q' x⟩).2⟩
    ·rw [h,if_pos (by decide+kernel)]
     refine ⟨_,U5.get1,av U5.2.1,rfl,?_⟩
     rw [if_pos (show lH=Str.ofString "h" from rfl)]
     exact (bj (K:=K) U5.2.1 (by rw [List.length_map];omega) ⟨s5.upd f1 _,U5.put1 n10 n21 n31 q' x⟩).2
    ·rw [h,if_neg (by decide+kernel),u.put0]
     exact ⟨s5,U5⟩
   ·rintro _ H6 ⟨rfl,s6,U6⟩
    push_cast [and_true]
    refine ⟨rfl,b8 (fun hH=>?_) fun hH=>?_⟩
    ·have hH:cf kinds v=lH:=hH
     rw [if_pos hH] at e5 he6
     obtain ⟨n1,hn1⟩:=Et he5
     have en:endAt ws q'=q'+n1:=by unfold endAt;rw [hn1];rfl
     rw [en] at e5 he6
     exact ⟨wt,ws,q',n1,rfl,s6.tup hW,hw,by omega,hn1,fun H7 s7=>fin (q'+n1) _ _ _ _ _ (by omega) (s6.trans s7) (U6.same s7) e5 hul' huw' ⟨d2,m2,hp6,he6⟩⟩
    ·have hH:¬cf kinds v=lH:=hH
     rw [if_neg hH] at e5 he6
     exact fin (q'+1) _ _ _ _ _ (by omega) s6 U6 e5 hul' huw' ⟨d2,m2,hp6,he6⟩
 ·intro σ H5 hh
  refine ob4 ((eP1 _ _ _).mp hh) fun q' u v6 v7 hh=>?_
  have s5:=hh.2.1
  have U5:=hh.2.2.1
  have e5:=hh.2.2.2.1
  have hul:=hh.2.2.2.2.1
  have huw:=hh.2.2.2.2.2.1
  have hdm:=hh.2.2.2.2.2.2
  obtain rfl:=hh.1
  clear hh
  obtain ⟨d,m,hp5,he5⟩:=hdm
  rw [List.drop_length] at e5
  have z:=q H5 s5
  rw [←e5] at z
  push_cast [and_true]
  refine ⟨_,U5.get1,_,.inl ⟨SqL.of U5.2.1,fun t1 ht1=>?_⟩⟩
  have U6:=U5.same (aa ht1 (.tup (u.hs.map plV)))
  refine ⟨_,U6.get2,_,.inl ⟨SqL.of U6.2.2.1,fun t2 ht2=>?_⟩⟩
  have U7:=U6.same (aa ht2 (.tup u.ns))
  refine ⟨_,U7.get3,_,.inl ⟨SqL.of U7.2.2.2,fun t3 ht3=>⟨by show (3:Nat)≤sizeLine;decide,fun t ht=>?_⟩⟩⟩
  exact z t _ ((aa ht1 _).trans ((aa ht2 _).trans ((aa ht3 _).trans (aa ht _)))) ⟨t1,t2,t3,ae,aa ht _ _ _ (aa ht3 _ _ _ (aa ht2 _ _ _ ae)),aa ht _ _ _ (aa ht3 _ _ _ ae),aa ht _ _ _ ae⟩ ⟨⟨huw.1,by omega⟩,⟨huw.2,by omega⟩,by omega⟩
noncomputable abbrev ji:Stmt:=top 9
theorem Au:az ["shape","kinds","under","hole_kinds"] ["shape","kinds","under"] (ah ji):=⟨rfl,rfl,rfl,by decide+kernel,rfl,by decide+kernel,by decide+kernel⟩
theorem Hh (G:Gs w K mg) (h_leaf_letter:Has P w K mg base k "leaf_letter" ["word","kinds"] (jd K)) (D:Def K mg "holes_under" ji ["shape","kinds","under"]):Has P w K mg base (k+1) "holes_under" ["shape","kinds","under"] (n0 K):=by
 refine D.has Au (fun vs H Q E h=>?_) (fun f cdv A outer s H vs Q E hr h=>?_)
 ·obtain ⟨_,_,_,_,_,_,rfl,_,_,_,_,_,_,_,_⟩:=h
  rfl
 have nd:=Au.nd
 have hu:=b7 hr
 have hu0:=Nat.lt_of_succ_lt hu
 obtain ⟨st,kt,ut,sh,kinds,u,rfl,hS,hK,hU,hk,hw,hl,hn,q⟩:=h
 have m_list:=G.m_list
 have m_zip:=G.m_zip
 refine ⟨_,(A4 (@Ag _ _ _ _ _ _ _ _ _ _ _ _ _ _ _ 3 _ _ _ nd rfl (Or.inl rfl) (BK ["word"] ["kinds"] [1] (And.intro rfl trivial) (And.intro (And.intro rfl (And.intro rfl rfl)) trivial)) rfl (BW (A0 0)) (fun _ _ _=>(B9 0 (show List.Nodup (["word","kinds"]:List Str) by decide+kernel))) (fun _ _ _=>(@pif1 _ _ _ (AE (AJ 0) (AG h_leaf_letter hr (A1 (A0 0) (A1 (A8 1) (A2 0)))) (AM 0) (AB 0)))) (fun _ _ _=>(A0 0)) rfl (by intro _;rfl) (.inl rfl)) (A6 (AC (@ub _ _ _ _ _ _ _ _ rfl rfl m_list rfl m_zip (A1 (A9 (AW 0) (A0 2) (A3 0)) (A1 (A0 3) (A2 0))) rfl rfl rfl)))),?_⟩
 rw [show start ["shape","kinds","under","hole_kinds"] [.ref st,.ref kt,.ref ut]=[some (.ref st),some (.ref kt),some (.ref ut),none] from rfl]
 clear hu hu0 nd hr
 push_cast [jd]
 have sz:=sizeLine_eq
 refine ⟨⟨sh,hS⟩,fun l hl'=>?_⟩
 refine Cr (xs:=sh) (fun i ys=>ys=(sh.take i).filter (isH kinds)) hS (by omega) hl' rfl (fun i x ys H3 G' K' hx hP hl2 hS' hG hK'=>?_) fun ys H3 hP hl2 hS' hD2=>?_
 ·have hxw:=hw x (List.mem_of_getElem? hx)
  have et:sh.take (i+1)=sh.take i++[x]:=by rw [List.take_add_one,hx];rfl
  push_cast [jd]
  refine ⟨hxw,kinds,hS'.tup hK,rfl,b8 (fun e=>?_) fun e=>?_⟩
  ·refine hK' _ _ (ao.refl _) ?_
   rw [et,List.filter_append,←hP,List.filter_cons,if_pos ((nr hk hxw).mp e)]
   rfl
  ·refine hG _ (ao.refl _) ?_
   rw [et,List.filter_append,←hP,List.filter_cons,if_neg fun z=>e ((nr hk hxw).mpr z)]
   exact (List.append_nil _).symm
 ·rw [List.take_length,←ic] at hP
  subst hP
  obtain ⟨t1,t2,t3,h1,h2,_⟩:=hU
  push_cast [tLZ]
  refine br (hS' _ _ h1) rfl ⟨t1,rfl,u.hs.map plV,SqT.of (hS' _ _ h2),(ba kinds sh).map V.str,SqL.of hD2,by rw [List.length_map,List.length_map,hn],fun l2 as H2 s2 hl2 hal hL hA=>q l2 H2 (hS'.trans s2) (hS'.free hl2) ⟨as,hL,?_,fun j k hj=>?_⟩⟩
  ·rw [hal,List.length_map,List.length_zip,hn,Nat.min_self]
  ·obtain ⟨g1,g2⟩:=List.getElem?_zip_eq_some.mp (show (u.hs.zip (ba kinds sh))[j]?=some (k.1,k.2) from hj)
   exact hA j _ _ (by rw [List.getElem?_map,g1];rfl) (by rw [List.getElem?_map,g2];rfl)
noncomputable abbrev gm:Stmt:=top 10
theorem xp:az ["book","words","place","fitting","name","kind","price","shape","deeds","under"] ["book","words","place"] (ah gm):=⟨rfl,rfl,rfl,by decide+kernel,rfl,by decide+kernel,by decide+kernel⟩
theorem Cw (G:Gs w K mg) (h_holes_under:Has P w K mg base k "holes_under" ["shape","kinds","under"] (n0 K)) (h_laid:Has P w K mg base k "laid" ["shape","kinds","words","place"] (yc K)) (D:Def K mg "fitting_rules" gm ["book","words","place"]):Has P w K mg base (k+1) "fitting_rules" ["book","words","place"] j7:=by
 refine D.has xp (fun vs H Q E h=>?_) (fun f cdv A outer s H vs Q E hr h=>?_)
 ·obtain ⟨_,_,_,_,_,_,rfl,_,_,_,_,_,_⟩:=h
  rfl
 have nd:=xp.nd
 have hu:=b7 hr
 have hu0:=Nat.lt_of_succ_lt hu
 obtain ⟨b,wt,kinds,rs,ws,p,rfl,hB,hW,bk,tw,hp,q⟩:=h
 refine ⟨_,(A4 (A7 3 nd (AH (A2 0))) (A4 (B0 (BW (A9 (AW 0) (A0 0) (A3 0))) (C4 (AZ (AR 4 nd (by first | exact Or.inl rfl | exact Or.inr rfl)) (AZ (AR 5 nd (by first | exact Or.inl rfl | exact Or.inr rfl)) (AZ (AR 6 nd (by first | exact Or.inl rfl | exact Or.inr rfl)) (AZ (AR 7 nd (by first | exact Or.inl rfl | exact Or.inr rfl)) (AZ (AR 8 nd (by first | exact Or.inl rfl | exact Or.inr rfl)) (@iy _))))))) (A4 (A7 9 nd (AG h_laid hr (A1 (A0 7) (A1 (A9 (AW 0) (A0 0) (A3 0)) (A1 (A0 1) (A1 (A0 2) (A2 0))))))) (A6 (AD (BV (@yz _ _ _ _ _ (A0 9)) (by first | exact dw _ (by decide) (by decide) | rfl)) (A6 (AQ (AS PySem.F.plainAttrs_list PySem.F.slot_list_append PySem.F.type_list_append (AX 0) (A0 3) (A1 (AL (A1 (A0 4) (A1 (A0 5) (A1 (A0 6) (A1 (AG h_holes_under hr (A1 (A0 7) (A1 (A9 (AW 0) (A0 0) (A3 0)) (A1 (A0 9) (A2 0))))) (A2 0)))))) (A2 0))))) (AN 0))))) (A6 (AC (A0 3))))),?_⟩
 rw [show start ["book","words","place","fitting","name","kind","price","shape","deeds","under"] [.ref b,.ref wt,.int (p:Int)]=[some (.ref b),some (.ref wt),some (.int (p:Int)),none,none,none,none,none,none,none] from rfl]
 clear hu hu0 nd hr
 push_cast [and_true]
 have sz:=sizeLine_eq
 have rl:=bk.len
 refine ⟨Nat.zero_le _,fun fl hfl=>?_⟩
 have S1:=aa hfl (.lst [])
 obtain ⟨kt,rt,ra,hb,hkt,hrt,hRA⟩:=hB
 refine br (S1 _ _ hb) rfl ⟨rt,rfl,⟨_,SqT.of (S1 _ _ hrt)⟩,?_⟩
 obtain ⟨P1,eP1⟩:∃P1:Nat→L2.St→Hp→Prop,∀j σ H',P1 j σ H'↔∃(as:List Addr) (v4 v5 v6 v7 v8 v9:Option V),σ=[some (.ref b),some (.ref wt),some (.int (p:Int)),some (.ref fl),v4,v5,v6,v7,v8,v9]∧ao H H'∧H' fl=some (.lst (as.map V.ref))∧de H' (fun x=>H x≠none∨x=fl) as ((rs.take j).filterMap (jr kinds ws p)):=⟨_,fun _ _ _=>Iff.rfl⟩
 refine m6 (xs:=ra.map V.ref) P1 ((eP1 _ _ _).mpr ⟨[],none,none,none,none,none,none,rfl,S1,ae,de.nil _ _⟩) (fun j σ H' _ h=>by obtain ⟨_,_,_,_,_,_,_,_,s,_⟩:=(eP1 _ _ _).mp h;exact SqT.of (s _ _ hrt)) ?_ ?_
 ·intro j y σ H5 hy hh
  refine ob7 ((eP1 _ _ _).mp hh) fun as v4 v5 v6 v7 v8 v9 hh=>?_
  have s5:=hh.2.1
  have f5:=hh.2.2.1
  have F5:=hh.2.2.2
  obtain rfl:=hh.1
  clear hh
  rw [List.getElem?_map] at hy
  obtain ⟨aj,haj,rfl⟩:=Option.map_eq_some_iff.mp hy
  have hjl:j < rs.length:=by rw [←hRA.1];exact (List.getElem?_eq_some_iff.mp haj).1
  have hrj:rs[j]?=some rs[j]:=List.getElem?_eq_getElem hjl
  obtain ⟨a',ha',sa,da,ds,g1,g2,g3⟩:=hRA.2 j _ hrj
  obtain rfl:a'=aj:=Option.some.inj (ha'.symm.trans haj)
  generalize rs[j]=r at hrj g1 g2
  have hrm:=List.mem_of_getElem? hrj
  obtain ⟨n,hn⟩:=tw.eat hp
  obtain ⟨w1,w2,w3⟩:=bk.sh r hrm
  have twl:=tw.len
  have et:(rs.take (j+1)).filterMap (jr kinds ws p)=(rs.take j).filterMap (jr kinds ws p)++(jr kinds ws p r).toList:=by
   rw [List.take_add_one,hrj,List.filterMap_append]
   congr 1
  refine K7 (s5 _ _ g1) rfl ?_
  push_cast [and_true]
  refine br (s5 _ _ hb) rfl (mkLaid (n:=n) (SqT.of (s5 _ _ g2)) (SqT.of (s5 _ _ hkt)) (SqT.of (s5 _ _ hW)) bk.kd w1 (fun v hv=>(tw.w v hv).1) w2 hn (by omega) twl fun H6 s6=>?_)
  have S6:=s5.trans s6
  cases hu:dk kinds ws r.shape p ⟨[],[],[]⟩ with
  | none=>
   have ef:jr kinds ws p r=none:=by unfold jr;rw [hu];rfl
   refine xo ?_
   push_cast [ux]
   rw [if_neg (by simp)]
   refine (eP1 _ _ _).mpr ⟨as,_,_,_,_,_,_,rfl,S6,s6 _ _ f5,?_⟩
   rw [et,ef,show (none:Option Pc.Fr).toList=[] from rfl,List.append_nil]
   exact F5.kx (Kx.same s6)
  | some u=>
   intro t H7 s7 hu7 ok7
   have ef:jr kinds ws p r=some ⟨r.name,r.kind,r.price,u.hs.zip (ba kinds r.shape)⟩:=by unfold jr;rw [hu];rfl
   have S7:=S6.trans s7
   push_cast [ux]
   rw [if_pos (by simp)]
   have s57:=s6.trans s7
   have f7:=s57 _ _ f5
   refine ⟨av f7,br (S7 _ _ hb) rfl (Kg (SqT.of (S7 _ _ g2)) (SqT.of (S7 _ _ hkt)) hu7 bk.kd w1 (by omega) (by have:=(qz bk.kd r.shape p _ u w1 hu).1;simpa using this) fun l H8 s8 hl8 hh8=>⟨by show (4:Nat)≤sizeLine;decide,fun pr hpr=>?_⟩)⟩
   have s9:=aa hpr (.tup [V.str r.name,V.str r.kind,V.int r.price,V.ref l])
   have e9:upd H8 pr (.tup [V.str r.name,V.str r.kind,V.int r.price,V.ref l]) pr=some (.tup [V.str r.name,V.str r.kind,V.int r.price,V.ref l]):=ae
   generalize upd H8 pr (.tup [V.str r.name,V.str r.kind,V.int r.price,V.ref l])=H9 at s9 e9 ⊢
   have s79:=s8.trans s9
   have f9:=s79 _ _ f7
   have fal:as.length≤100:=by
    rw [F5.1]
    exact Nat.le_trans (List.length_filterMap_le _ _) (by rw [List.length_take];omega)
   refine (bj (K:=K) f9 (by rw [List.length_map];omega) ((eP1 _ _ _).mpr ⟨as++[pr],_,_,_,_,_,_,rfl,(S7.trans s79).upd hfl _,by rw [ae,List.map_append];rfl,?_⟩)).2
   rw [et,ef]
   refine de.kx (de.snoc (F5.kx (Kx.same (s57.trans s79))) ⟨l,?_,e9,hh8.same s9⟩) ((Kx.upd f9).weak fun x hx=>.inr hx)
   rintro (z | z)
   ·exact z (S7.free hl8)
   ·exact (ag f7 hl8) z.symm
 ·intro σ H5 hh
  refine ob7 ((eP1 _ _ _).mp hh) fun as v4 v5 v6 v7 v8 v9 hh=>?_
  have s5:=hh.2.1
  have f5:=hh.2.2.1
  have F5:=hh.2.2.2
  obtain rfl:=hh.1
  clear hh
  push_cast [and_true]
  rw [List.length_map,List.take_of_length_le (by rw [hRA.1];exact Nat.le_refl _)] at F5
  exact q fl as H5 s5 hfl f5 (F5.weak fun x hx=>.inl hx)
noncomputable abbrev mw:Stmt:=top 11
theorem E9:az ["own","holes","least","total","hole"] ["own","holes","least"] (ah mw):=⟨rfl,rfl,rfl,by decide+kernel,rfl,by decide+kernel,by decide+kernel⟩
theorem J7 (G:Gs w K mg) (D:Def K mg "price_there" mw ["own","holes","least"]):Has P w K mg base (k+1) "price_there" ["own","holes","least"] jb:=by
 refine D.has E9 (fun vs H Q E h=>?_) (fun f cdv A outer s H vs Q E hr h=>?_)
 ·obtain ⟨_,_,_,_,_,_,rfl,_,_,_⟩:=h
  rfl
 have nd:=E9.nd
 have hu:=b7 hr
 have hu0:=Nat.lt_of_succ_lt hu
 obtain ⟨own,hl,d,hs,g,n,rfl,hH,hT,q⟩:=h
 refine ⟨_,(A4 (A7 3 nd (A0 0)) (A4 (B0 (BN (A0 1)) (AR 4 nd (by first | exact Or.inl rfl | exact Or.inr rfl)) (A4 (AD (BV (C9 hu (A0 4) (A0 2)) (by first | exact dw _ (by decide) (by decide) | rfl)) (A6 (AC (@By _ _ _))) (AN 0)) (A6 (A7 3 nd (A5 (AO 0) (A0 3) (BI hu (A0 2) (A0 4))))))) (A6 (AC (A0 3))))),?_⟩
 rw [show start ["own","holes","least","total","hole"] [.int own,.ref hl,.ref d]=[some (.int own),some (.ref hl),some (.ref d),none,none] from rfl]
 clear hu hu0 nd hr
 push_cast [and_true]
 obtain ⟨as,h1,h2,h3⟩:=hH
 refine ⟨⟨_,SqL.of h1⟩,fc (xs:=as.map V.ref) (fun i σ H'=>∃(c:Int) (v4:Option V),σ=[some (.int own),some (.ref hl),some (.ref d),some (.int c),v4]∧H=H'∧cost g c (hs.drop i)=cost g own hs) ⟨own,none,rfl,rfl,rfl⟩ (fun i σ H' _ h=>by obtain ⟨_,_,_,rfl,_⟩:=h;exact SqL.of h1) ?_ ?_⟩
 ·rintro i y σ H' hy ⟨c,v4,rfl,rfl,hc⟩
  rw [List.getElem?_map] at hy
  obtain ⟨a,ha,rfl⟩:=Option.map_eq_some_iff.mp hy
  have hil:i < hs.length:=by rw [←h2];exact (List.getElem?_eq_some_iff.mp ha).1
  have hk:hs[i]?=some hs[i]:=List.getElem?_eq_getElem hil
  obtain ⟨a',ha',hA⟩:=h3 i _ hk
  obtain rfl:a'=a:=Option.some.inj (ha'.symm.trans ha)
  rw [List.drop_eq_getElem_cons hil] at hc
  push_cast [and_true]
  refine ⟨_,hT.get hA,?_⟩
  cases e:g hs[i] with
  | none=>
   rw [ie e] at hc
   rw [←hc] at q
   exact q
  | some v=>
   rw [gf e] at hc
   have hG:=hT.val hA e
   rw [if_neg (by simp)]
   exact ⟨_,hG,hc⟩
 ·rintro σ H' ⟨c,v4,rfl,rfl,hc⟩
  rw [List.length_map,h2,List.drop_length] at hc
  have hc:some c=cost g own hs:=hc
  push_cast [and_true]
  rw [←hc] at q
  exact q
noncomputable abbrev i5:Stmt:=top 12
theorem Br:az ["place","fitting","least","settled","name","kind","own","holes","price"] ["place","fitting","least"] (ah i5):=⟨rfl,rfl,rfl,by decide+kernel,rfl,by decide+kernel,by decide+kernel⟩
theorem Fx (G:Gs w K mg) (h_price_there:Has P w K mg base k "price_there" ["own","holes","least"] jb) (D:Def K mg "settle_part" i5 ["place","fitting","least"]):Has P w K mg base (k+1) "settle_part" ["place","fitting","least"] nj:=by
 refine D.has Br (fun vs H Q E h=>?_) (fun f cdv A outer s H vs Q E hr h=>?_)
 ·obtain ⟨_,_,_,_,_,_,_,rfl,_,_,_,_,_,_,_,_⟩:=h
  rfl
 have nd:=Br.nd
 have hu:=b7 hr
 have hu0:=Nat.lt_of_succ_lt hu
 obtain ⟨p,fl,d,as,fs,g,n,rfl,hF,hFs,hT,hn,ho,hpos,hnew,q⟩:=h
 refine ⟨_,(A4 (A7 3 nd (BL 0)) (A6 (C3 (BX (B6 (A0 3))) (A4 (A7 3 nd (BL 0)) (A6 (B0 (BN (A0 1)) (C4 (AZ (AR 4 nd (by first | exact Or.inl rfl | exact Or.inr rfl)) (AZ (AR 5 nd (by first | exact Or.inl rfl | exact Or.inr rfl)) (AZ (AR 6 nd (by first | exact Or.inl rfl | exact Or.inr rfl)) (AZ (AR 7 nd (by first | exact Or.inl rfl | exact Or.inr rfl)) (@iy _)))))) (A4 (A7 8 nd (AG h_price_there hr (A1 (A0 6) (A1 (A0 7) (A1 (A0 2) (A2 0)))))) (A6 (AD (BD (BO (BV (@yz _ _ _ _ _ (A0 8)) (by first | exact dw _ (by decide) (by decide) | rfl)) (BQ (BD (BY (BV (C9 hu (AL (A1 (A0 0) (A1 (A0 5) (A2 0)))) (A0 2)) (by first | exact dw _ (by decide) (by decide) | rfl)) (BZ (AE (@ow _) (A0 8) (BI hu (A0 2) (AL (A1 (A0 0) (A1 (A0 5) (A2 0))))) (AB 0)))))))) (A4 (@Dx _ _ _ _ _ _ _ _ _ hu (A0 2) (AL (A1 (A0 0) (A1 (A0 5) (A2 0)))) (A0 8) rfl) (A6 (A7 3 nd (BL 0)))) (AN 0)))))))))),?_⟩
 rw [show start ["place","fitting","least","settled","name","kind","own","holes","price"] [.int (p:Int),.ref fl,.ref d]=[some (.int (p:Int)),some (.ref fl),some (.ref d),none,none,none,none,none,none] from rfl]
 clear hu hu0 nd hr
 push_cast [and_true]
 have sz:=sizeLine_eq
 have hal:=hFs.1
 have own:∀f∈fs.map (dv p),1≤f.own:=fun f hf=>by
  obtain ⟨f',hf',rfl⟩:=List.mem_map.mp hf
  exact ho f' hf'
 obtain ⟨μ,Ok,ok0,okpos,okstep⟩:=ends (F:=fs.map (dv p)) hpos own hT.bound
 have cl:∀g',cnt (fs.map (dv p)) g'≤fs.length:=fun g'=>by have:=Bu (fs.map (dv p)) g';rw [List.length_map] at this;exact this
 have keep:∀{H':Hp},au d H H'→H' fl=some (.lst (as.map V.ref))∧de H' (fun _=>False) as fs:=fun s'=>⟨(Kx.tb (no:=fun _=>False) hT s').l id hF,hFs.kx (Kx.tb hT s')⟩
 obtain ⟨P1,eP1⟩:∃P1:L2.St→Hp→Prop,∀σ H',P1 σ H'↔∃(g':Ky→Option Int) (b:Bool) (v4 v5 v6 v7 v8:Option V),σ=[some (.int (p:Int)),some (.ref fl),some (.ref d),some (.bl b),v4,v5,v6,v7,v8]∧au d H H'∧cv H' d g' (n+cnt (fs.map (dv p)) g')∧SetI p fs g Ok g'∧(b=true→iu (fs.map (dv p)) g'):=⟨_,fun _ _=>Iff.rfl⟩
 refine j5 P1 (fun σ H'=>2*μ (gOf H' d)+blAt σ) ((eP1 _ _).mpr ⟨g,false,none,none,none,none,none,rfl,au.refl _ _,hT.mono (Nat.le_add_right _ _),⟨ok0,fun _ _=>rfl,fun k v hk hv=>by rw [hnew k hk] at hv;cases hv⟩,fun e=>nomatch e⟩) ?_ ?_
 ·intro σ H1 hh
  refine ob7 ((eP1 _ _).mp hh) fun g1 b v4 v5 v6 v7 v8 hh=>?_
  have s1:=hh.2.1
  have T1:=hh.2.2.1
  have I1:=hh.2.2.2.1
  have st1:=hh.2.2.2.2
  obtain rfl:=hh.1
  clear hh
  push_cast [and_true]
  cases b with
  | true=>
   rw [if_neg (by simp)]
   exact q H1 g1 s1 (T1.mono (by have:=cl g1;omega)) (st1 rfl) I1.far I1.due (okpos g1 I1.ok)
  | false=>
   rw [if_pos (by simp)]
   obtain ⟨f1,F1⟩:=keep s1
   have e1:=zc T1
   obtain ⟨Pv,ePv⟩:∃Pv:Nat→L2.St→Hp→Prop,∀i σ H',Pv i σ H'↔∃(g':Ky→Option Int) (b:Bool) (v4 v5 v6 v7 v8:Option V),σ=[some (.int (p:Int)),some (.ref fl),some (.ref d),some (.bl b),v4,v5,v6,v7,v8]∧au d H H'∧cv H' d g' (n+cnt (fs.map (dv p)) g')∧SetI p fs g Ok g'∧(b=true→g'=g1∧∀(j:Nat) (f:Pc.Fr),j < i→fs[j]?=some f→Kl p g1 f)∧(b=false→μ g' < μ g1):=⟨_,fun _ _ _=>Iff.rfl⟩
   refine ⟨⟨_,SqL.of f1⟩,fc (xs:=as.map V.ref) Pv ((ePv _ _ _).mpr ⟨g1,true,v4,v5,v6,v7,v8,rfl,s1,T1,I1,fun _=>⟨rfl,fun j f h=>absurd h (Nat.not_lt_zero _)⟩,fun e=>nomatch e⟩) (fun i σ H' _ h=>by obtain ⟨_,_,_,_,_,_,_,_,s,_⟩:=(ePv _ _ _).mp h;exact SqL.of (keep s).1) ?_ ?_⟩
   ·intro i y σ H2 hy hh
    refine ob7 ((ePv _ _ _).mp hh) fun g2 b v4 v5 v6 v7 v8 hh=>?_
    have s2:=hh.2.1
    have T2:=hh.2.2.1
    have I2:=hh.2.2.2.1
    have bt2:=hh.2.2.2.2.1
    have bf2:=hh.2.2.2.2.2
    obtain rfl:=hh.1
    clear hh
    rw [List.getElem?_map] at hy
    obtain ⟨a,ha,rfl⟩:=Option.map_eq_some_iff.mp hy
    have hil:i < fs.length:=by rw [←hal];exact (List.getElem?_eq_some_iff.mp ha).1
    have hfi:fs[i]?=some fs[i]:=List.getElem?_eq_getElem hil
    obtain ⟨f2,F2⟩:=keep s2
    obtain ⟨a',ha',hl,_,h3,h4⟩:=F2.2 i _ hfi
    obtain rfl:a'=a:=Option.some.inj (ha'.symm.trans ha)
    generalize fs[i]=f at hfi h3 h4
    have hfm:=List.mem_of_getElem? hfi
    refine Jr h3 rfl ?_
    push_cast [and_true]
    refine L8 h4 T2 ?_
    have no:∀H' w4 w5 w6 w7 w8,ao H2 H'→Kl p g2 f→Pv (i+1) [some (.int (p:Int)),some (.ref fl),some (.ref d),some (.bl b),w4,w5,w6,w7,w8] H':=fun H' w4 w5 w6 w7 w8 s' so=>(ePv _ _ _).mpr ⟨g2,b,w4,w5,w6,w7,w8,rfl,s2.trans (au.of s'),T2.same s',I2,fun e=>⟨(bt2 e).1,fun j f' hj hf'=>by
     obtain ⟨e1',h⟩:=bt2 e
     by_cases c:j < i
     ·exact h j f' c hf'
     ·obtain rfl:j=i:=by omega
      obtain rfl:f=f':=Option.some.inj (hfi.symm.trans hf')
      rw [←e1']
      exact so⟩,bf2⟩
    have yes:∀(H':Hp) (b':Addr) (c:Int) w4 w5 w6 w7 w8,ao H2 H'→H' b'=some (kyT (p,f.kind))→cost g2 f.own f.hs=some c→Imp g2 (p,f.kind) c→∃H'',vc H' d (.ref b') (.int c) H''∧Pv (i+1) [some (.int (p:Int)),some (.ref fl),some (.ref d),some (.bl false),w4,w5,w6,w7,w8] H'':=fun H' b' c w4 w5 w6 w7 w8 s' hb hc im=>by
     obtain ⟨o,hput,htb⟩:=(T2.same s').put (v:=c) hb (by have:=cl g2;omega)
     obtain ⟨ok',lt⟩:=okstep g2 (dv p f) c I2.ok (List.mem_map.mpr ⟨f,hfm,rfl⟩) hc im
     refine ⟨upd H' d o,hput,(ePv _ _ _).mpr ⟨eh g2 (p,f.kind) c,false,w4,w5,w6,w7,w8,rfl,(s2.trans (au.of s')).trans (au.tb o),htb.mono (cnt_up hfm),I2.put hfm hc im ok',(fun e=>nomatch e),fun _=>?_⟩⟩
     have lt:μ (eh g2 (p,f.kind) c) < μ g2:=lt
     cases b with
     | true=>
      obtain ⟨rfl,_⟩:=bt2 rfl
      exact lt
     | false=>
      have:=bf2 rfl
      omega
    cases e:cost g2 f.own f.hs with
    | none=>
     push_cast [ux]
     rw [if_neg (by simp)]
     exact no H2 _ _ _ _ _ (ao.refl _) (fun c hc=>by rw [e] at hc;cases hc)
    | some c=>
     push_cast [ux]
     rw [if_pos (by simp)]
     refine ⟨by show (2:Nat)≤sizeLine;decide,fun p1 hp1=>⟨_,(T2.same (aa hp1 _)).get (k:=(p,f.kind)) ae,?_⟩⟩
     cases e2:g2 (p,f.kind) with
     | none=>
      rw [if_pos (by simp)]
      exact ⟨by show (2:Nat)≤sizeLine;decide,fun p2 hp2=>yes _ p2 c _ _ _ _ _ ((aa hp1 _).trans (aa hp2 _)) ae e (.inl e2)⟩
     | some v=>
      rw [if_neg (by simp)]
      refine ⟨by show (2:Nat)≤sizeLine;decide,fun p2 hp2=>⟨_,(T2.same ((aa hp1 _).trans (aa hp2 _))).val (k:=(p,f.kind)) ae e2,b8 (fun lt=>⟨by show (2:Nat)≤sizeLine;decide,fun p3 hp3=>yes _ p3 c _ _ _ _ _ ((aa hp1 _).trans ((aa hp2 _).trans (aa hp3 _))) ae e (.inr ⟨v,e2,lt⟩)⟩) fun nlt=>no _ _ _ _ _ _ ((aa hp1 _).trans (aa hp2 _)) fun c' hc'=>⟨v,e2,?_⟩⟩⟩
      rw [e] at hc'
      have:=Option.some.inj hc'
      omega
   ·intro σ H2 hh
    refine ob7 ((ePv _ _ _).mp hh) fun g2 b v4 v5 v6 v7 v8 hh=>?_
    have s2:=hh.2.1
    have T2:=hh.2.2.1
    have I2:=hh.2.2.2.1
    have bt2:=hh.2.2.2.2.1
    have bf2:=hh.2.2.2.2.2
    obtain rfl:=hh.1
    clear hh
    refine ⟨(eP1 _ _).mpr ⟨g2,b,v4,v5,v6,v7,v8,rfl,s2,T2,I2,fun e=>?_⟩,?_⟩
    ·obtain ⟨rfl,h⟩:=bt2 e
     exact Gm fun j f hf=>h j f (by rw [List.length_map,hal];exact (List.getElem?_eq_some_iff.mp hf).1) hf
    ·rw [e1,zc T2]
     cases b with
     | true=>
      obtain ⟨rfl,_⟩:=bt2 rfl
      show 2*μ g2+0 < 2*μ g2+1
      omega
     | false=>
      have:=bf2 rfl
      show 2*μ g2+1 < 2*μ g1+1
      omega
 ·intro σ H1 Q1 Q2 h c
  simp only [tNot,jv,tB,ik] at c ⊢
  obtain ⟨v,hv,cc,e,hq⟩:=c
  exact ⟨v,hv,cc,e,h _ _ hq⟩
noncomputable abbrev uc:Stmt:=top 13
theorem Ke:az ["kind","price","fitting","least"] ["kind","price","fitting","least"] (ah uc):=⟨rfl,rfl,rfl,by decide+kernel,rfl,by decide+kernel,by decide+kernel⟩
theorem hasWith (G:Gs w K mg) (h_price_there:Has P w K mg base k "price_there" ["own","holes","least"] jb) (D:Def K mg "rules_with_price" uc ["kind","price","fitting","least"]):Has P w K mg base (k+1) "rules_with_price" ["kind","price","fitting","least"] ya:=by
 refine D.has Ke (fun vs H Q E h=>?_) (fun f cdv A outer s H vs Q E hr h=>?_)
 ·obtain ⟨_,_,_,_,_,_,_,_,rfl,_,_,_,_,_⟩:=h
  rfl
 have nd:=Ke.nd
 have hu:=b7 hr
 have hu0:=Nat.lt_of_succ_lt hu
 obtain ⟨k,v,fl,d,as,fs,g,n,rfl,hF,hFs,hn,hT,q⟩:=h
 refine ⟨_,(A6 (AC (BR (BK ["name","other","own","holes"] ["kind","least","price"] [0,3,1] (And.intro rfl (And.intro rfl (And.intro rfl trivial))) (And.intro (And.intro rfl (And.intro rfl rfl)) (And.intro (And.intro rfl (And.intro rfl rfl)) (And.intro (And.intro rfl (And.intro rfl rfl)) trivial)))) (BN (A0 2)) (fun _ _ _=>(@Ed _ _ K rfl _ _ _ 4 rfl (AZ (B9 0 (show List.Nodup (["name","other","own","holes","kind","least","price"]:List Str) by decide+kernel)) (AZ (B9 1 (show List.Nodup (["name","other","own","holes","kind","least","price"]:List Str) by decide+kernel)) (AZ (B9 2 (show List.Nodup (["name","other","own","holes","kind","least","price"]:List Str) by decide+kernel)) (AZ (B9 3 (show List.Nodup (["name","other","own","holes","kind","least","price"]:List Str) by decide+kernel)) (@iy _))))) rfl rfl)) (fun _ _ _=>(@pif1 _ _ _ (BD (BO (AE (AJ 0) (A0 1) (A8 4) (AB 0)) (BQ (AE (AJ 0) (AG h_price_there hr (A1 (A0 2) (A1 (A0 3) (A1 (A8 5) (A2 0))))) (A8 6) (AB 0))))))) (fun _ _ _=>(A0 0))))),?_⟩
 rw [show start ["kind","price","fitting","least"] [.str k,.int v,.ref fl,.ref d]=[some (.str k),some (.int v),some (.ref fl),some (.ref d)] from rfl]
 clear hu hu0 nd hr
 push_cast [jb]
 have sz:=sizeLine_eq
 have hal:=hFs.1
 have one:∀(i:Nat) (t:Addr),as[i]?=some t→∃f hl,fs[i]?=some f∧H t=some (.tup [.str f.name,.str f.kind,.int f.own,.ref hl])∧mn H hl f.hs:=fun i t ht=>by
  have hi:i < fs.length:=by rw [←hal];exact (List.getElem?_eq_some_iff.mp ht).1
  obtain ⟨a,h1,hl,_,h3,h4⟩:=hFs.2 i _ (List.getElem?_eq_getElem hi)
  obtain rfl:a=t:=Option.some.inj (h1.symm.trans ht)
  exact ⟨_,hl,List.getElem?_eq_getElem hi,h3,h4⟩
 refine ⟨⟨_,SqL.of hF⟩,fun D hD=>Ay (as:=as) (fun i ys _=>ys=(namesW (fs.take i) g k v).map V.str) (fun _ _ _ _ _ h=>h) rfl (SqL.of hF) (fun i t ht=>?_) (by omega) hD rfl (fun i t x0 x1 x2 x3 ys H3 G' K' ht hx hP hl2 hS' hG hK'=>?_) fun ys H3 hP hl2 hS' hD2=>?_⟩
 ·obtain ⟨f,hl,_,h,_⟩:=one i t ht
  exact ⟨_,_,_,_,h⟩
 ·obtain ⟨f,hl,hf,h,hh⟩:=one i t ht
  rw [hx] at h
  simp only [Option.some.injEq,HO.tup.injEq,List.cons.injEq,and_true] at h
  obtain ⟨rfl,rfl,rfl,rfl⟩:=h
  have et:namesW (fs.take (i+1)) g k v=namesW (fs.take i) g k v++if f.kind=k∧cost g f.own f.hs=some v then [f.name] else []:=by
   unfold namesW
   rw [List.take_add_one,hf,List.filter_append,List.map_append]
   congr 1
   show (List.filter _ [f]).map _=_
   rw [List.filter_cons]
   by_cases c:f.kind=k∧cost g f.own f.hs=some v
   ·rw [if_pos c,if_pos (decide_eq_true c)];rfl
   ·rw [if_neg c,if_neg (by simpa using c)];rfl
  push_cast [jb]
  refine ⟨rfl,b8 (fun e=>?_) fun e=>?_⟩
  ·refine ⟨_,hh.same hS',g,⟨n,hT.same hS'⟩,?_⟩
   cases e2:cost g f.own f.hs with
   | none=>
    refine ⟨rfl,?_⟩
    rw [if_neg (by intro z;cases z)]
    refine hG _ (ao.refl _) ?_
    rw [et,if_neg (fun z=>by rw [e2] at z;cases z.2),List.append_nil]
    exact hP
   | some c=>
    refine ⟨rfl,b8 (fun e3=>?_) fun e3=>?_⟩
    ·have e3:c=v:=V.int.inj e3
     refine hK' _ _ (ao.refl _) ?_
     rw [et,if_pos ⟨e,by rw [e2,e3]⟩,List.map_append,←hP]
     rfl
    ·refine hG _ (ao.refl _) ?_
     rw [et,if_neg (fun z=>e3 (by rw [e2] at z;rw [Option.some.inj z.2])),List.append_nil]
     exact hP
  ·refine hG _ (ao.refl _) ?_
   rw [et,if_neg (fun z=>e z.1),List.append_nil]
   exact hP
 ·rw [List.take_of_length_le (by omega)] at hP
  exact q D H3 hS' hD (by rw [←hP];exact hD2)
noncomputable abbrev mh:Stmt:=top 14
theorem Fu:az ["book","place","fitting","least","rows","kind","price"] ["book","place","fitting","least"] (ah mh):=⟨rfl,rfl,rfl,by decide+kernel,rfl,by decide+kernel,by decide+kernel⟩
theorem Iv (G:Gs w K mg) (h_rules_with_price:Has P w K mg base k "rules_with_price" ["kind","price","fitting","least"] ya) (D:Def K mg "rows_of_part" mh ["book","place","fitting","least"]):Has P w K mg base (k+1) "rows_of_part" ["book","place","fitting","least"] rn:=by
 refine D.has Fu (fun vs H Q E h=>?_) (fun f cdv A outer s H vs Q E hr h=>?_)
 ·obtain ⟨_,_,_,_,_,_,_,_,_,_,rfl,_,_,_,_,_,_,_⟩:=h
  rfl
 have nd:=Fu.nd
 have hu:=b7 hr
 have hu0:=Nat.lt_of_succ_lt hu
 obtain ⟨b,fl,d,p,kinds,rs,as,fs,g,n,rfl,hB,hkl,hF,hFs,hn,hT,q⟩:=h
 have m_sorted:=G.m_sorted
 refine ⟨_,(A4 (A7 4 nd (AH (A2 0))) (A4 (B0 (BN (AA (@yb _) m_sorted Ab (A1 (A9 (AW 0) (A0 0) (A3 0)) (A2 0)))) (AR 5 nd (by first | exact Or.inl rfl | exact Or.inr rfl)) (A6 (AD (BV (@pc_din _ _ _ _ _ hu (AL (A1 (A0 1) (A1 (A0 5) (A2 0)))) (A0 3)) (by first | exact dw _ (by decide) (by decide) | rfl)) (A4 (A7 6 nd (BI hu (A0 3) (AL (A1 (A0 1) (A1 (A0 5) (A2 0)))))) (A6 (AQ (AS PySem.F.plainAttrs_list PySem.F.slot_list_append PySem.F.type_list_append (AX 0) (A0 4) (A1 (AL (A1 (A0 1) (A1 (A0 5) (A1 (A0 6) (A1 (AG h_rules_with_price hr (A1 (A0 5) (A1 (A0 6) (A1 (A0 2) (A1 (A0 3) (A2 0)))))) (A2 0)))))) (A2 0)))))) (AN 0)))) (A6 (AC (A0 4))))),?_⟩
 rw [show start ["book","place","fitting","least","rows","kind","price"] [.ref b,.int (p:Int),.ref fl,.ref d]=[some (.ref b),some (.int (p:Int)),some (.ref fl),some (.ref d),none,none,none] from rfl]
 clear hu hu0 nd hr
 push_cast [and_true]
 have sz:=sizeLine_eq
 refine ⟨Nat.zero_le _,fun rl hrl=>?_⟩
 have S1:=aa hrl (.lst [])
 obtain ⟨kt,rt,ra,hb,hkt,hrt,hRA⟩:=hB
 refine br (S1 _ _ hb) rfl ⟨kt,rfl,kinds.map V.str,.inr (SqT.of (S1 _ _ hkt)),by rw [List.length_map];omega,_,Ie,(fun i j hi hj e=>Gy hi hj e),fun kl is hpm hin hk=>?_⟩
 rw [x5 hpm hin]
 have S2:=S1.trans (aa hk (.lst ((cq kinds).map V.str)))
 have k2:upd (upd H rl (.lst [])) kl (.lst ((cq kinds).map V.str)) kl=some (.lst ((cq kinds).map V.str)):=ae
 have r2:upd (upd H rl (.lst [])) kl (.lst ((cq kinds).map V.str)) rl=some (.lst []):=aa hk _ _ _ ae
 generalize upd (upd H rl (.lst [])) kl (.lst ((cq kinds).map V.str))=H2 at S2 k2 r2 ⊢
 have hks:(cq kinds).length≤60:=by rw [pe];exact hkl
 have nrk:rl≠kl:=(ag (ae (H:=H) (a:=rl) (o:=.lst [])) hk)
 obtain ⟨P1,eP1⟩:∃P1:Nat→L2.St→Hp→Prop,∀i σ H',P1 i σ H'↔∃(bs:List Addr) (v5 v6:Option V),σ=[some (.ref b),some (.int (p:Int)),some (.ref fl),some (.ref d),some (.ref rl),v5,v6]∧ao H H'∧H' kl=some (.lst ((cq kinds).map V.str))∧H' rl=some (.lst (bs.map V.ref))∧cg H' (fun x=>H x≠none∨x=rl) bs (df ((cq kinds).take i) fs p g):=⟨_,fun _ _ _=>Iff.rfl⟩
 refine ⟨⟨_,SqL.of k2⟩,fc (xs:=(cq kinds).map V.str) P1 ((eP1 _ _ _).mpr ⟨[],none,none,rfl,S2,k2,r2,cg.nil _ _⟩) (fun i σ H' _ h=>by obtain ⟨_,_,_,_,_,hk',_⟩:=(eP1 _ _ _).mp h;exact SqL.of hk') ?_ ?_⟩
 ·intro i y σ H5 hy hh
  refine ob3 ((eP1 _ _ _).mp hh) fun bs v5 v6 hh=>?_
  have s5:=hh.2.1
  have k5:=hh.2.2.1
  have r5:=hh.2.2.2.1
  have R5:=hh.2.2.2.2
  obtain rfl:=hh.1
  clear hh
  rw [List.getElem?_map] at hy
  obtain ⟨z,hz,rfl⟩:=Option.map_eq_some_iff.mp hy
  have et:df ((cq kinds).take (i+1)) fs p g=df ((cq kinds).take i) fs p g++((g (p,z)).map fun v=>(⟨p,z,v,namesW fs g z v⟩:Rw)).toList:=by
   unfold df
   rw [List.take_add_one,hz,List.filterMap_append]
   congr 1
  have hbl:bs.length≤60:=by
   rw [R5.1]
   exact Nat.le_trans (List.length_filterMap_le _ _) (by rw [List.length_take];omega)
  push_cast [and_true]
  refine ⟨by show (2:Nat)≤sizeLine;decide,fun p1 hp1=>⟨_,(hT.same (s5.trans (aa hp1 _))).get (k:=(p,z)) ae,?_⟩⟩
  have s6:=aa hp1 (.tup [V.int (p:Int),V.str z])
  generalize upd H5 p1 (.tup [V.int (p:Int),V.str z])=H6 at s6 ⊢
  have S6:=s5.trans s6
  cases e:g (p,z) with
  | none=>
   rw [if_neg (by simp)]
   refine (eP1 _ _ _).mpr ⟨bs,_,_,rfl,S6,s6 _ _ k5,s6 _ _ r5,?_⟩
   rw [et,e]
   show cg H6 _ bs (_++[])
   rw [List.append_nil]
   exact R5.kx (Kx.same s6)
  | some v=>
   rw [if_pos (by simp)]
   refine ⟨by show (2:Nat)≤sizeLine;decide,fun p2 hp2=>⟨_,(hT.same (S6.trans (aa hp2 _))).val (k:=(p,z)) ae e,?_⟩⟩
   have s7:=aa hp2 (.tup [V.int (p:Int),V.str z])
   generalize upd H6 p2 (.tup [V.int (p:Int),V.str z])=H7 at s7 ⊢
   have S7:=S6.trans s7
   have s57:=s6.trans s7
   refine ⟨av (s57 _ _ r5),mkWith (S7 _ _ hF) (hFs.kx (Kx.same S7)) hn (hT.same S7) fun l H8 s8 hl8 h8=>⟨by show (4:Nat)≤sizeLine;decide,fun p3 hp3=>?_⟩⟩
   have s9:=aa hp3 (.tup [V.int (p:Int),V.str z,V.int v,V.ref l])
   have e9:upd H8 p3 (.tup [V.int (p:Int),V.str z,V.int v,V.ref l]) p3=some (.tup [V.int (p:Int),V.str z,V.int v,V.ref l]):=ae
   generalize upd H8 p3 (.tup [V.int (p:Int),V.str z,V.int v,V.ref l])=H9 at s9 e9 ⊢
   have s59:=s57.trans (s8.trans s9)
   have r9:=s59 _ _ r5
   refine (bj (K:=K) r9 (by rw [List.length_map];omega) ((eP1 _ _ _).mpr ⟨bs++[p3],_,_,rfl,(s5.trans s59).upd hrl _,by rw [af nrk.symm];exact s59 _ _ k5,by rw [ae,List.map_append];rfl,?_⟩)).2
   rw [et,e]
   refine cg.kx (cg.append (R5.kx (Kx.same s59)) (cg.one ⟨l,?_,e9,s9 _ _ h8⟩)) ((Kx.upd r9).weak fun x hx=>.inr hx)
   rintro (y | y)
   ·exact y (S7.free hl8)
   ·exact (ag (s57 _ _ r5) hl8) y.symm
 ·intro σ H5 hh
  refine ob3 ((eP1 _ _ _).mp hh) fun bs v5 v6 hh=>?_
  have s5:=hh.2.1
  have k5:=hh.2.2.1
  have r5:=hh.2.2.2.1
  have R5:=hh.2.2.2.2
  obtain rfl:=hh.1
  clear hh
  push_cast [and_true]
  rw [List.length_map,List.take_length] at R5
  exact q rl bs H5 s5 hrl r5 (R5.weak fun x hx=>.inl hx)
noncomputable abbrev ml:Stmt:=top 15
theorem E5:az ["book","words","least","parts","place","fitting","rows","part"] ["book","words"] (ah ml):=⟨rfl,rfl,rfl,by decide+kernel,rfl,by decide+kernel,by decide+kernel⟩
theorem Kj (G:Gs w K mg) (h_fitting_rules:Has P w K mg base k "fitting_rules" ["book","words","place"] j7) (h_rows_of_part:Has P w K mg base k "rows_of_part" ["book","place","fitting","least"] rn) (h_settle_part:Has P w K mg base k "settle_part" ["place","fitting","least"] nj) (D:Def K mg "rows_with_all_rules" ml ["book","words"]):Has P w K mg base (k+1) "rows_with_all_rules" ["book","words"] yj:=by
 refine D.has E5 (fun vs H Q E h=>?_) (fun f cdv A outer s H vs Q E hr h=>?_)
 ·obtain ⟨_,_,_,_,_,rfl,_,_,_,_,_⟩:=h
  rfl
 have nd:=E5.nd
 have hu:=b7 hr
 have hu0:=Nat.lt_of_succ_lt hu
 obtain ⟨b,wt,kinds,rs,ws,rfl,hB,hW,bk,tw,q⟩:=h
 have m_len:=G.m_len
 have m_range:=G.m_range
 have m_reversed:=G.m_reversed
 refine ⟨_,(A4 (A7 2 nd (@Bj _ _)) (A4 (A7 3 nd (AH (A2 0))) (A4 (B0 (@Hi _ _ _ _ _ _ _ _ rfl m_range (A1 (A5 (B8 0) (AA (AV 0) m_len cm (A1 (A0 1) (A2 0))) (A3 0)) (A1 (C5 (@ng _) (A3 0)) (A1 (C5 (@ng _) (A3 0)) (A2 0)))) rfl rfl) (AR 4 nd (by first | exact Or.inl rfl | exact Or.inr rfl)) (A4 (A7 5 nd (AG h_fitting_rules hr (A1 (A0 0) (A1 (A0 1) (A1 (A0 4) (A2 0)))))) (A4 (AQ (AG h_settle_part hr (A1 (A0 4) (A1 (A0 5) (A1 (A0 2) (A2 0)))))) (A6 (AQ (AS PySem.F.plainAttrs_list PySem.F.slot_list_append PySem.F.type_list_append (AX 0) (A0 3) (A1 (AG h_rows_of_part hr (A1 (A0 0) (A1 (A0 4) (A1 (A0 5) (A1 (A0 2) (A2 0)))))) (A2 0)))))))) (A4 (A7 6 nd (AH (A2 0))) (A4 (B0 (@pi_rev _ _ _ _ _ _ rfl m_reversed (A1 (A0 3) (A2 0)) rfl) (AR 7 nd (by first | exact Or.inl rfl | exact Or.inr rfl)) (A6 (AQ (AS PySem.F.plainAttrs_list PySem.F.slot_list_extend PySem.F.type_list_extend (@xi _) (A0 6) (A1 (A0 7) (A2 0)))))) (A6 (AC (A0 6)))))))),?_⟩
 rw [show start ["book","words","least","parts","place","fitting","rows","part"] [.ref b,.ref wt]=[some (.ref b),some (.ref wt),none,none,none,none,none,none] from rfl]
 clear hu hu0 nd hr
 push_cast [and_true]
 have sz:=sizeLine_eq
 have wl:=tw.len
 have rl:=bk.len
 push_cast [Ji,iDn]
 intro d hd
 refine ⟨Nat.zero_le _,fun pl hpl=>?_⟩
 have S1:=aa hd (.dT [])
 have S2:=S1.trans (aa hpl (.lst []))
 have npd:pl≠d:=(ag (ae (H:=H) (a:=d) (o:=.dT [])) hpl).symm
 have d2:cv (upd (upd H d (.dT [])) pl (.lst [])) d (fun _=>none) 0:=(cv.nil (H:=H) (d:=d)).same (aa hpl _)
 have p2:upd (upd H d (.dT [])) pl (.lst []) pl=some (.lst []):=ae
 have fpl:H pl=none:=S1.free hpl
 generalize upd (upd H d (.dT [])) pl (.lst [])=H2 at S2 d2 p2 ⊢
 refine ⟨ws,.inr (SqT.of (S2 _ _ hW)),ws.length,rfl,by omega,?_⟩
 have fl100:∀i,(bo kinds rs ws i).length≤100:=fun i=>Nat.le_trans (Ht kinds rs ws i) rl
 obtain ⟨P1,eP1⟩:∃P1:Nat→L2.St→Hp→Prop,∀i σ H',P1 i σ H'↔∃(g:Ky→Option Int) (pa:List Addr) (v4 v5:Option V),σ=[some (.ref b),some (.ref wt),some (.ref d),some (.ref pl),v4,v5,none,none]∧ao H H'∧cv H' d g ((ws.length - i)*100)∧wb kinds rs ws i g∧H' pl=some (.lst (pa.map V.ref))∧fw H H' pl pa kinds rs ws i g:=⟨_,fun _ _ _=>Iff.rfl⟩
 refine Mu (n:=ws.length) P1 ((eP1 _ _ _).mpr ⟨fun _=>none,[],none,none,rfl,S2,d2.mono (Nat.zero_le _),wb.start kinds rs ws,p2,⟨by simp,fun q h1 h2=>by omega⟩⟩) ?_ ?_
 ·intro i σ H5 hi hh
  refine ob4 ((eP1 _ _ _).mp hh) fun g pa v4 v5 hh=>?_
  have s5:=hh.2.1
  have T5:=hh.2.2.1
  have O5:=hh.2.2.2.1
  have p5:=hh.2.2.2.2.1
  have P5:=hh.2.2.2.2.2
  obtain rfl:=hh.1
  clear hh
  have fi:=fl100 i
  push_cast [and_true]
  refine Hg (hB.same s5) (s5 _ _ hW) bk tw hi fun fl as H6 s6 hfl f6 F6=>?_
  refine Kf f6 (F6.weak (fun _ h=>h.elim)) (T5.same s6) (by omega) (fun f hf=>(kc bk hf).1) O5.pos (fun k hk=>?_) fun H7 g' s7 T7 st7 far7 due7 pos7=>?_
  ·cases e:g k with
   | none=>rfl
   | some v=>
    have:=(O5.at' k v e).1
    omega
  have S7:ao H H7:=fun c o h=>s7 c o (ag h hd) ((s5.trans s6) c o h)
  have x7:∀{no:Addr→Prop},Kx no H6 H7:=Kx.tb (T5.same s6) s7
  have p7:=x7.l (no:=fun _=>False) id (s6 _ _ p5)
  have f7:=x7.l (no:=fun _=>False) id f6
  refine ⟨av p7,M3 (hB.same S7) bk.kl f7 ((F6.weak (no':=fun _=>False) (fun _ h=>h.elim)).kx x7) (by omega) T7 fun l bs H8 s8 hl8 h8 R8=>?_⟩
  have p8:=s8 _ _ p7
  have pal:=P5.1
  refine (bj (K:=K) p8 (by rw [List.length_map];omega) ((eP1 _ _ _).mpr ⟨g',pa++[l],_,_,rfl,(S7.trans s8).upd fpl _,((T7.same s8).at fun o e=>by rw [af npd.symm];exact e).mono (by omega),wb.step bk O5 hi st7 far7 due7 pos7,by rw [ae,List.map_append];rfl,?_⟩)).2
  refine fw.kx (fw.snoc bk (P5.kx ((Kx.same s6).trans (x7.trans (Kx.same s8)))) hi far7 ?_ h8 (R8.weak fun x hx=>?_)) ((Kx.upd p8).weak fun x hx=>.inr hx)
  ·rintro (y | y)
   ·exact y (S7.free hl8)
   ·exact (ag p7 hl8) y.symm
  ·rcases hx with y | y
   ·intro z
    exact y (S7.free z)
   ·intro z
    rw [y,p7] at z
    cases z
 ·intro σ H5 hh
  refine ob4 ((eP1 _ _ _).mp hh) fun g pa v4 v5 hh=>?_
  have s5:=hh.2.1
  have T5:=hh.2.2.1
  have O5:=hh.2.2.2.1
  have p5:=hh.2.2.2.2.1
  have P5:=hh.2.2.2.2.2
  obtain rfl:=hh.1
  clear hh
  have pal:=P5.1
  push_cast [and_true]
  refine ⟨Nat.zero_le _,fun rl2 hrl=>⟨_,SqL.of (aa hrl _ _ _ p5),?_⟩⟩
  refine Ln (xs:=pa.map V.ref) (fun i σ H'=>∃(bs:List Addr) (v7:Option V),σ=[some (.ref b),some (.ref wt),some (.ref d),some (.ref pl),v4,v5,some (.ref rl2),v7]∧ao H5 H'∧H' rl2=some (.lst (bs.map V.ref))∧cg H5 (fun x=>H x≠none) bs (je kinds rs ws g i)) ⟨[],none,rfl,aa hrl _,ae,cg.nil _ _⟩ (fun i σ H' _ h=>by obtain ⟨_,_,_,s,_⟩:=h;exact SqL.of (s _ _ p5)) ?_ ?_
  ·rintro i y σ H6 hi hy ⟨bs,v7,rfl,s6,r6,R6⟩
   rw [List.length_map] at hi hy
   have hiw:i < ws.length:=by omega
   obtain ⟨a,bs2,g1,g2,g3,g4⟩:=P5.2 i (Nat.zero_le _) hiw
   rw [List.getElem?_map,pal,show ws.length - 0 - 1 - i=ws.length - 1 - i by omega,g1] at hy
   have hy:V.ref a=y:=Option.some.inj hy
   subst hy
   push_cast [and_true]
   have bl:bs.length≤60*i:=by rw [R6.1];exact me kinds rs ws g bk.kl i
   have bl2:bs2.length≤60:=by rw [g4.1];exact Nat.le_trans (ue _ _ _ _) (by rw [pe];exact bk.kl)
   refine ⟨av r6,rl2,a,bs.map V.ref,bs2.map V.ref,rfl,rfl,r6,s6 _ _ g3,by rw [List.length_map,List.length_map];omega,?_⟩
   refine ⟨s6.upd hrl _,bs++bs2,by rw [ae,List.map_append],?_⟩
   rw [gu]
   exact R6.append (g4.weak fun x hx=>.inl hx)
  ·rintro σ H6 ⟨bs,v7,rfl,s6,r6,R6⟩
   push_cast [and_true]
   rw [List.length_map,pal,Nat.sub_zero] at R6
   exact q rl2 bs H6 g (s5.trans s6) (s5.free hrl) r6 O5.tbl (R6.kx (Kx.same s6))
noncomputable abbrev i9:Stmt:=top 16
theorem Al:az ["book","words"] ["book","words"] (ah i9):=⟨rfl,rfl,rfl,by decide+kernel,rfl,by decide+kernel,by decide+kernel⟩
theorem Gf (G:Gs w K mg) (h_rows_with_all_rules:Has P w K mg base k "rows_with_all_rules" ["book","words"] yj) (D:Def K mg "prices" i9 ["book","words"]):Has P w K mg base (k+1) "prices" ["book","words"] m8:=by
 refine D.has Al (fun vs H Q E h=>?_) (fun f cdv A outer s H vs Q E hr h=>?_)
 ·obtain ⟨_,_,_,_,_,rfl,_,_,_,_,_⟩:=h
  rfl
 have nd:=Al.nd
 have hu:=b7 hr
 have hu0:=Nat.lt_of_succ_lt hu
 obtain ⟨b,wt,kinds,rs,ws,rfl,hB,hW,bk,tw,q⟩:=h
 refine ⟨_,(A6 (AC (BR (BK ["place","kind","price","rules"] [] [] trivial trivial) (BN (AG h_rows_with_all_rules hr (A1 (A0 0) (A1 (A0 1) (A2 0))))) (fun _ _ _=>(@Ed _ _ K rfl _ _ _ 4 rfl (AZ (B9 0 (show List.Nodup (["place","kind","price","rules"]:List Str) by decide+kernel)) (AZ (B9 1 (show List.Nodup (["place","kind","price","rules"]:List Str) by decide+kernel)) (AZ (B9 2 (show List.Nodup (["place","kind","price","rules"]:List Str) by decide+kernel)) (AZ (B9 3 (show List.Nodup (["place","kind","price","rules"]:List Str) by decide+kernel)) (@iy _))))) rfl rfl)) (fun _ _ _=>(@pif0 _)) (fun _ _ _=>(AL (A1 (A0 0) (A1 (A0 1) (A1 (A0 2) (A1 (A9 (C0 K) (A0 3) (A3 0)) (A2 0)))))))))),?_⟩
 rw [show start ["book","words"] [.ref b,.ref wt]=[some (.ref b),some (.ref wt)] from rfl]
 clear hu hu0 nd hr
 push_cast [and_true]
 have sz:=sizeLine_eq
 refine ⟨b,wt,kinds,rs,ws,rfl,hB,hW,bk,tw,fun l as H1 g s1 hl h1 T R=>⟨l,rfl,⟨_,SqL.of h1⟩,fun D hD=>?_⟩⟩
 have rl:=uo (g:=g) bk tw
 have hal:=R.1
 refine Ay (as:=as) (fun i ys H'=>∃bs:List Addr,ys=bs.map V.ref∧jl H' bs ((rowsOf kinds rs ws g).take i)) (fun i ys H' H'' tk h=>by obtain ⟨bs,h1,h2⟩:=h;exact ⟨bs,h1,h2.tk tk⟩) rfl (SqL.of h1) (fun i t ht=>?_) (by omega) hD ⟨[],rfl,rfl,fun j r h=>by simp at h⟩ (fun i t x0 x1 x2 x3 ys H3 G' K' ht hx hP hl2 hS' hG hK'=>?_) fun ys H3 hP hl2 hS' hD2=>?_
 ·obtain ⟨r,nl,_,h,_⟩:=R.get ht
  exact ⟨_,_,_,_,h⟩
 ·obtain ⟨r,nl,hr,h,hn⟩:=R.get ht
  rw [hx] at h
  simp only [Option.some.injEq,HO.tup.injEq,List.cons.injEq,and_true] at h
  obtain ⟨rfl,rfl,rfl,rfl⟩:=h
  obtain ⟨nm,hnm⟩:=vq T (List.mem_of_getElem? hr)
  obtain ⟨bs,rfl,hb⟩:=hP
  push_cast [and_true]
  refine aq (v:=.str nm) (hS' _ _ hn) ?_ ⟨by show (4:Nat)≤sizeLine;decide,fun pr hpr=>?_⟩
  ·cases e:r.names with
   | nil=>rw [e] at hnm;cases hnm
   | cons y ys=>rw [e] at hnm;cases hnm;exact ax (j:=0) rfl
  ·refine hK' _ _ (aa hpr _) ⟨bs++[pr],by rw [List.map_append];rfl,?_⟩
   rw [List.take_add_one,hr]
   exact (hb.same (aa hpr _)).snoc hnm ae
 ·obtain ⟨bs,rfl,hb⟩:=hP
  rw [List.take_of_length_le (by omega)] at hb
  exact q D bs H3 g (s1.trans hS') (s1.free hD) hD2 T hb
noncomputable abbrev t6:Stmt:=top 18
theorem Ib:az ["deck","cells","at"] ["deck"] (ah t6):=⟨rfl,rfl,rfl,by decide+kernel,rfl,by decide+kernel,by decide+kernel⟩
theorem hasNext (G:Gs w K mg) (D:Def K mg "_law_next" t6 ["deck"]):Has P w K mg base (k+1) "_law_next" ["deck"] iz:=by
 refine D.has Ib (fun vs H Q E h=>?_) (fun f cdv A outer s H vs Q E hr h=>?_)
 ·obtain ⟨_,_,_,_,rfl,_,_,_⟩:=h
  rfl
 have nd:=Ib.nd
 have hu:=b7 hr
 have hu0:=Nat.lt_of_succ_lt hu
 obtain ⟨d,b,ns,n,rfl,hD,hn,q⟩:=h
 have m_len:=G.m_len
 refine ⟨_,(A4 (A7 1 nd (A9 (AY 0) (A0 0) (A3 0))) (A4 (A7 2 nd (A9 (AY 0) (A0 0) (A3 0))) (A4 (@Le _ _ _ _ _ _ (A5 (AO 0) (A0 2) (A3 0)) (@Io _ _ _ _ _ _ _ (A0 0) (A3 0) (@set_list _) (by intro _;rfl)) rfl rfl rfl) (A4 (AD (AE (@ow _) (A0 2) (AA (AV 0) m_len cm (A1 (A0 1) (A2 0))) (AB 0)) (A6 (AC (A9 (AY 0) (A0 1) (A0 2)))) (AN 0)) (A4 (AD (AE (AJ 0) (AA (AV 0) m_len cm (A1 (A0 1) (A2 0))) (A3 0) (AB 0)) (A6 (AC (A5 (AO 0) (A5 (@yx _) (A5 (@yx _) (A0 2) (A0 2)) (A3 0)) (A0 2)))) (AN 0)) (A6 (AC (A5 (AO 0) (A5 (AU 0) (A9 (AY 0) (A0 1) (A5 (AF 0) (A0 2) (AA (AV 0) m_len cm (A1 (A0 1) (A2 0))))) (A3 0)) (A5 (@yx _) (A0 2) (A0 2)))))))))),?_⟩
 rw [show start ["deck","cells","at"] [.ref d]=[some (.ref d),none,none] from rfl]
 clear hu hu0 nd hr
 push_cast [rIxL,gSub,J9,ox,CMul]
 have nb:=hD.ne
 obtain ⟨h1,h2⟩:=hD
 refine ⟨_,SqL.of h1,.ref b,rfl,_,SqL.of h1,.int (n:Int),rfl,?_⟩
 push_cast [and_true]
 have h3:upd H d (.lst [.ref b,.int ((n:Int)+1)]) b=some (.lst (ns.map V.int)):=by rw [af nb];exact h2
 have hS:au d H (upd H d (.lst [.ref b,.int ((n:Int)+1)])):=fun c o hc ho=>by rw [af hc];exact ho
 have hD':upd H d (.lst [.ref b,.int ((n:Int)+1)]) d=some (.lst [.ref b,.int ((n+1:Nat):Int)]):=ae
 refine ⟨_,h1,1,rfl,ns.map V.int,.inl (SqL.of h3),b8 (fun c=>?_) fun c=>⟨ns.map V.int,.inl (SqL.of h3),rfl,b8 (fun c2=>?_) fun c2=>?_⟩⟩
 ·rw [List.length_map] at c
  have hlt:n < ns.length:=by omega
  exact ⟨_,SqL.of h3,.int ns[n],ax (by rw [List.getElem?_map,List.getElem?_eq_getElem hlt];rfl),q _ _ hS hD'⟩
 ·exact ⟨.inl ⟨by omega,by omega⟩,.inr trivial,q _ _ hS hD'⟩
 ·rw [List.length_map] at c2
  have hpos:0 < ns.length:=by omega
  have hlt:n % ns.length < ns.length:=Nat.mod_lt _ hpos
  refine ⟨ns.map V.int,.inl (SqL.of h3),by rw [List.length_map];omega,_,SqL.of h3,.int ns[n % ns.length],?_,by decide,by decide,.inl ⟨by omega,by omega⟩,q _ _ hS hD'⟩
  rw [List.length_map,show (n:Int) % (ns.length:Int)=((n % ns.length:Nat):Int) from (Int.natCast_emod _ _).symm]
  exact ax (by rw [List.getElem?_map,List.getElem?_eq_getElem hlt];rfl)
noncomputable abbrev uf:Stmt:=top 25
theorem Kt:az ["words","ends","stack","back","at","end"] ["words"] (ah uf):=⟨rfl,rfl,rfl,by decide+kernel,rfl,by decide+kernel,by decide+kernel⟩
theorem O1 (G:Gs w K mg) (D:Def K mg "_law_ends" uf ["words"]):Has P w K mg base (k+1) "_law_ends" ["words"] (y9 K):=by
 refine D.has Kt (fun vs H Q E h=>?_) (fun f cdv A outer s H vs Q E hr h=>?_)
 ·obtain ⟨_,_,rfl,_,_,_,_,_⟩:=h
  rfl
 have nd:=Kt.nd
 have hu:=b7 hr
 have hu0:=Nat.lt_of_succ_lt hu
 obtain ⟨t,ws,rfl,hT,hw,hTm,hl,q⟩:=h
 have m_len:=G.m_len
 have m_range:=G.m_range
 refine ⟨_,(A4 (A7 1 nd (A5 (@op_rep _) (AH (A1 (A3 0) (A2 0))) (AA (AV 0) m_len cm (A1 (A0 0) (A2 0))))) (A4 (A7 2 nd (AH (A2 0))) (A4 (B0 (BS m_range (A1 (AA (AV 0) m_len cm (A1 (A0 0) (A2 0))) (A2 0))) (AR 3 nd (by first | exact Or.inl rfl | exact Or.inr rfl)) (A4 (A7 4 nd (A5 (B8 0) (A5 (B8 0) (AA (AV 0) m_len cm (A1 (A0 0) (A2 0))) (A3 0)) (A0 3))) (A4 (A7 5 nd (A5 (AO 0) (A0 4) (A3 0))) (BM (AD (BP (BU 0) (A9 (AW 0) (A0 0) (A0 4)) (AH (BF (AI (AI (AI (BG 0))))))) (A6 (AQ (C6 PySem.F.plainAttrs_list PySem.F.slot_list_pop PySem.F.type_list_pop (@yw _) (A0 2)))) (AN 0)) (BM (AD (BP (BU 0) (A9 (AW 0) (A0 0) (A0 4)) (AH (BF (AI (AI (AI (AI (BG 0)))))))) (A6 (A7 5 nd (C6 PySem.F.plainAttrs_list PySem.F.slot_list_pop PySem.F.type_list_pop (@yw _) (A0 2)))) (AN 0)) (A4 (AQ (AS PySem.F.plainAttrs_list PySem.F.slot_list_append PySem.F.type_list_append (AX 0) (A0 2) (A1 (A0 5) (A2 0)))) (A6 (@Le _ _ _ _ _ _ (A0 5) (@Io _ _ _ _ _ _ _ (A0 1) (A0 4) (@set_list _) (by intro _;rfl)) rfl rfl rfl)))))))) (A6 (AC (A0 1)))))),?_⟩
 rw [show start ["words","ends","stack","back","at","end"] [.ref t]=[some (.ref t),none,none,none,none,none] from rfl]
 clear hu hu0 nd hr
 push_cast [and_true]
 have sz:=sizeLine_eq
 refine ⟨by show (1:Nat)≤sizeLine;decide,fun p0 hp0=>⟨ws,.inr ((aa hp0 _).tup hT),Mq ae (by omega) (by omega) fun el hel=>⟨Nat.zero_le _,fun sp hsp=>⟨ws,.inr ((((aa hp0 _).trans (aa hel _)).trans (aa hsp _)).tup hT),by omega,by omega,?_⟩⟩⟩⟩
 rw [show ((ws.length:Nat):Int).toNat=ws.length by omega] at hsp ⊢
 have S1:=aa hp0 (.lst [V.int 0])
 have fe:=S1.free hel
 have S2:=S1.trans (aa hel (.lst (List.replicate ws.length (V.int 0))))
 have fs:=S2.free hsp
 have S3:=S2.trans (aa hsp (.lst []))
 have nes:el≠sp:=ag ae hsp
 have e3:=aa hsp (.lst []) _ _ (ae (H:=upd H p0 (.lst [V.int 0])) (a:=el) (o:=.lst (List.replicate ws.length (V.int 0))))
 have p3:upd (upd (upd H p0 (.lst [V.int 0])) el (.lst (List.replicate ws.length (V.int 0)))) sp (.lst []) sp=some (.lst []):=ae
 generalize upd (upd (upd H p0 (.lst [V.int 0])) el (.lst (List.replicate ws.length (V.int 0)))) sp (.lst [])=H3 at S3 e3 p3 ⊢
 obtain ⟨P1,eP1⟩:∃P1:Nat→L2.St→Hp→Prop,∀j σ H',P1 j σ H'↔∃v3 v4 v5:Option V,σ=[some (.ref t),some (.ref el),some (.ref sp),v3,v4,v5]∧ao H H'∧H' sp=some (.lst (((vo ws (ws.length - j)).drop 1).reverse.map plV))∧H' el=some (.lst (List.replicate (ws.length - j) (V.int 0)++(List.range j).map fun i=>plV (endAt ws (ws.length - j+i)))):=⟨_,fun _ _ _=>Iff.rfl⟩
 refine fj (lo:=0) P1 ?_ ?_ ?_
 ·refine (eP1 _ _ _).mpr ⟨none,none,none,rfl,S3,?_,?_⟩
  ·rw [Nat.sub_zero,Hz]
   exact p3
  ·rw [e3]
   simp
 ·intro j σ H5 hj hh
  refine ob3 ((eP1 _ _ _).mp hh) fun v3 v4 v5 hh=>?_
  have s5:=hh.2.1
  have p5:=hh.2.2.1
  have e5:=hh.2.2.2
  obtain rfl:=hh.1
  clear hh
  obtain ⟨p,hp⟩:∃p,p+j+1=ws.length:=⟨ws.length - 1 - j,by omega⟩
  rw [show ws.length - j=p+1 by omega] at p5 e5
  have ej:(fun _:Unit=>ws.length - (j+1))=fun _=>p:=by funext _;omega
  have hpl:p < ws.length:=by omega
  have hx:ws[p]?=some ws[p]:=List.getElem?_eq_getElem hpl
  have hxw:=hw _ (List.getElem_mem hpl)
  have hat:atI ws (p:Int)=some ws[p]:=ax hx
  generalize ws[p]=x at hx hxw hat
  obtain ⟨tp,u,tu⟩:=L4 hTm hx
  push_cast [and_true]
  refine ⟨ws,.inr (s5.tup hT),?_⟩
  rw [show ((ws.length:Int) - 1 - (0+(j:Int)))=(p:Int) by omega]
  obtain ⟨E',hT'⟩:=G9 ws (p:=p+1) (by omega)
  rw [hT'] at p5 tp tu
  have p5:H5 sp=some (.lst (E'.reverse.map plV)):=p5
  have three:=Ar hxw
  have four:=zd hxw
  have ar2:=ug x
  have rp:∀(y:Nat) (L:List Nat),((y::L).reverse.map plV)=L.reverse.map plV++[plV y]:=fun y L=>by rw [List.reverse_cons,List.map_append];rfl
  refine d4 (fun σ' H6=>σ'=[some (.ref t),some (.ref el),some (.ref sp),some (.int (0+(j:Int))),some (.int (p:Int)),some (.int ((p:Int)+1))]∧ao H H6∧H6 el=H5 el∧H6 sp=some (.lst ((if arV x=2 then E'.drop 1 else E').reverse.map plV))) ?_ ?_
  ·push_cast [rIn]
   refine ⟨t,ws,_,x,rfl,rfl,s5.tup hT,hat,by show (3:Nat)≤sizeLine;decide,fun a ha=>⟨_,.inl (SqL.of ae),hxw.flat,rfl,b8 (fun c2=>?_) fun c2=>?_⟩⟩
   ·have a2:=three.mp c2
    rw [a2] at tu
    rw [if_pos a2]
    cases E' with
    | nil=>cases tu
    | cons e1 E2=>
     rw [rp] at p5
     exact za (aa ha _ _ _ p5) ⟨(s5.trans (aa ha _)).upd fs _,by rw [af nes,aa ha _ _ _ e5,e5],by rw [ae];rfl⟩
   ·rw [if_neg fun e=>c2 (three.mpr e)]
    exact ⟨s5.trans (aa ha _),by rw [aa ha _ _ _ e5,e5],aa ha _ _ _ p5⟩
  rintro _ H6 ⟨rfl,s6,e6,p6⟩
  refine d4 (fun σ' H7=>σ'=[some (.ref t),some (.ref el),some (.ref sp),some (.int (0+(j:Int))),some (.int (p:Int)),some (plV (endAt ws p))]∧ao H H7∧H7 el=H5 el∧H7 sp=some (.lst (u.reverse.map plV))) ?_ ?_
  ·push_cast [rIn]
   refine ⟨t,ws,_,x,rfl,rfl,s6.tup hT,hat,by show (4:Nat)≤sizeLine;decide,fun a ha=>⟨_,.inl (SqL.of ae),hxw.flat,rfl,b8 (fun c2=>?_) fun c2=>?_⟩⟩
   ·have a1:=four.mp c2
    have hE:(if arV x=2 then E'.drop 1 else E')=endAt ws p::u:=by
     by_cases a2:arV x=2
     ·rw [if_pos a2]
      rw [a2] at tu
      exact tu
     ·rw [if_neg a2]
      rw [show arV x=1 by omega] at tu
      exact tu
    rw [hE,rp] at p6
    exact za (aa ha _ _ _ p6) ⟨rfl,(s6.trans (aa ha _)).upd fs _,by rw [af nes,aa ha _ _ _ (e6.trans e5),e5],ae⟩
   ·have a0:arV x=0:=by
     rcases Nat.eq_zero_or_pos (arV x) with h | h
     ·exact h
     ·exact absurd (four.mpr h) c2
    rw [a0] at tu p6
    have tu:(p+1)::E'=endAt ws p::u:=tu
    obtain ⟨y1,y2⟩:=List.cons.inj tu
    rw [if_neg (by decide),y2] at p6
    exact ⟨by omega,s6.trans (aa ha _),by rw [aa ha _ _ _ (e6.trans e5),e5],aa ha _ _ _ p6⟩
  rintro _ H7 ⟨rfl,s7,e7,p7⟩
  push_cast [gSub,J9]
  have tl:=Ld ws p
  rw [tp,tu,List.length_cons,List.length_cons] at tl
  refine bj p7 (by rw [List.length_map,List.length_reverse];omega) ⟨_,by rw [af nes];exact e7.trans e5,p,Om (by rw [List.length_append,List.length_replicate];omega),(eP1 _ _ _).mpr ⟨_,_,_,rfl,(s7.upd fs _).upd fe _,?_,?_⟩⟩
  ·rw [show ws.length - (j+1)=p from congrFun ej (),af nes.symm,ae,tp,tu]
   show _=some (HO.lst ((endAt ws p::u).reverse.map plV))
   rw [rp]
  ·rw [show ws.length - (j+1)=p from congrFun ej (),ae,Hx,List.range_succ_eq_map,List.map_cons,List.map_map]
   show some (HO.lst (_++plV (endAt ws p)::List.map (fun i=>plV (endAt ws (p+1+i))) (List.range j)))=some (HO.lst (_++plV (endAt ws (p+0))::List.map ((fun i=>plV (endAt ws (p+i))) ∘ Nat.succ) (List.range j)))
   have ef:((fun i=>plV (endAt ws (p+i))) ∘ Nat.succ)=fun i=>plV (endAt ws (p+1+i)):=by
    funext i
    show plV (endAt ws (p+(i+1)))=_
    rw [show p+(i+1)=p+1+i by omega]
   rw [ef]
   rfl
 ·intro σ H5 hh
  refine ob3 ((eP1 _ _ _).mp hh) fun v3 v4 v5 hh=>?_
  have s5:=hh.2.1
  have p5:=hh.2.2.1
  have e5:=hh.2.2.2
  obtain rfl:=hh.1
  clear hh
  push_cast [and_true]
  refine q el H5 s5 fe ?_
  rw [e5,Nat.sub_self]
  simp
noncomputable abbrev lu:Stmt:=top 26
theorem Dz:az ["kinds","shape","words","ends","place","under","word","there"] ["kinds","shape","words","ends","place"] (ah lu):=⟨rfl,rfl,rfl,by decide+kernel,rfl,by decide+kernel,by decide+kernel⟩
theorem Kp (G:Gs w K mg) (D:Def K mg "_law_laid" lu ["kinds","shape","words","ends","place"]):Has P w K mg base (k+1) "_law_laid" ["kinds","shape","words","ends","place"] (qx K):=by
 refine D.has Dz (fun vs H Q E h=>?_) (fun f cdv A outer s H vs Q E hr h=>?_)
 ·obtain ⟨_,_,_,_,_,_,_,_,rfl,_,_,_,_,_,_,_,_,_,_,_⟩:=h
  rfl
 have nd:=Dz.nd
 have hu:=b7 hr
 have hu0:=Nat.lt_of_succ_lt hu
 obtain ⟨st,kt,wt,et,sh,kinds,ws,p,rfl,hS,hK,hW,hE,hk,hs,hTm,hl1,tw,hp,q⟩:=h
 have m_int:=G.m_int
 have m_isinstance:=G.m_isinstance
 have m_str:=G.m_str
 have m_tuple:=G.m_tuple
 refine ⟨_,(A4 (A7 5 nd (AH (A1 (AH (A2 0)) (A1 (AH (A2 0)) (A1 (AH (A2 0)) (A2 0)))))) (A4 (B0 (BW (A0 1)) (AR 6 nd (by first | exact Or.inl rfl | exact Or.inr rfl)) (A4 (A7 7 nd (A9 (AW 0) (A0 2) (A0 4))) (A6 (AD (BP (BU 0) (A0 6) (A0 0)) (A4 (AQ (AS PySem.F.plainAttrs_list PySem.F.slot_list_append PySem.F.type_list_append (AX 0) (A9 (AY 0) (A0 5) (A3 0)) (A1 (A0 4) (A2 0)))) (A6 (A7 4 nd (A9 (AY 0) (A0 3) (A0 4))))) (A6 (AD (BD (BO (AE (AJ 0) (A0 6) (AM 0) (AB 0)) (BQ (B6 (AA (AT 0) m_isinstance ak (A1 (A0 7) (A1 (AK m_int ko) (A2 0)))))))) (A4 (AQ (AS PySem.F.plainAttrs_list PySem.F.slot_list_append PySem.F.type_list_append (AX 0) (A9 (AY 0) (A0 5) (A3 0)) (A1 (A0 7) (A2 0)))) (A6 (A7 4 nd (A5 (AO 0) (A0 4) (A3 0))))) (A6 (AD (BD (BO (AE (AJ 0) (A0 6) (AM 0) (AB 0)) (BO (B6 (AA (AT 0) m_isinstance ak (A1 (A0 7) (A1 (AK m_str ky) (A2 0))))) (BQ (BP (@zi _) (A0 7) (AH (BF (AI (AI (AI (AI (BG 0)))))))))))) (A4 (AQ (AS PySem.F.plainAttrs_list PySem.F.slot_list_append PySem.F.type_list_append (AX 0) (A9 (AY 0) (A0 5) (A3 0)) (A1 (A0 7) (A2 0)))) (A6 (A7 4 nd (A5 (AO 0) (A0 4) (A3 0))))) (A6 (AD (AE (AJ 0) (A0 6) (A0 7) (AB 0)) (A6 (A7 4 nd (A5 (AO 0) (A0 4) (A3 0)))) (A6 (AC (@By _ _ _))))))))))))) (A6 (AC (AL (A1 (B7 (BJ 0) m_tuple bq (A1 (A9 (AY 0) (A0 5) (A3 0)) (A2 0))) (A1 (B7 (BJ 0) m_tuple bq (A1 (A9 (AY 0) (A0 5) (A3 0)) (A2 0))) (A1 (B7 (BJ 0) m_tuple bq (A1 (A9 (AY 0) (A0 5) (A3 0)) (A2 0))) (A2 0))))))))),?_⟩
 rw [show start ["kinds","shape","words","ends","place","under","word","there"] [.ref kt,.ref st,.ref wt,.ref et,.int (p:Int)]=[some (.ref kt),some (.ref st),some (.ref wt),some (.ref et),some (.int (p:Int)),none,none,none] from rfl]
 clear hu hu0 nd hr
 push_cast [and_true]
 have sz:=sizeLine_eq
 have hw:=fun v hv=>(tw.w v hv).1
 obtain ⟨n,he⟩:=tw.eat hp
 refine ⟨Nat.zero_le _,fun l1 h1=>⟨Nat.zero_le _,fun l2 h2=>⟨Nat.zero_le _,fun l3 h3=>⟨by show (3:Nat)≤sizeLine;decide,fun u0 h0=>?_⟩⟩⟩⟩
 have n21:l2≠l1:=(ag ae h2).symm
 have n31:l3≠l1:=(ag (aa h2 _ _ _ ae) h3).symm
 have n32:l3≠l2:=(ag ae h3).symm
 have n10:u0≠l1:=(ag (aa h3 _ _ _ (aa h2 _ _ _ ae)) h0).symm
 have n20:u0≠l2:=(ag (aa h3 _ _ _ ae) h0).symm
 have n30:u0≠l3:=(ag ae h0).symm
 have S1:=aa h1 (.lst [])
 have f2:=S1.free h2
 have S2:=S1.trans (aa h2 (.lst []))
 have f3:=S2.free h3
 have S3:=S2.trans (aa h3 (.lst []))
 have S4:=S3.trans (aa h0 (.lst [.ref l1,.ref l2,.ref l3]))
 have U4:lr (upd (upd (upd (upd H l1 (.lst [])) l2 (.lst [])) l3 (.lst [])) u0 (.lst [.ref l1,.ref l2,.ref l3])) u0 l1 l2 l3 ⟨[],[],[]⟩:=
  ⟨ae,by rw [af n10.symm,af n31.symm,af n21.symm,ae];rfl,by rw [af n20.symm,af n32.symm,ae],by rw [af n30.symm,ae]⟩
 generalize upd (upd (upd (upd H l1 (.lst [])) l2 (.lst [])) l3 (.lst [])) u0 (.lst [.ref l1,.ref l2,.ref l3])=H4 at S4 U4 ⊢
 obtain ⟨P1,eP1⟩:∃P1:Nat→L2.St→Hp→Prop,∀i σ H',P1 i σ H'↔∃(q':Nat) (u:Und) (v6 v7:Option V),σ=[some (.ref kt),some (.ref st),some (.ref wt),some (.ref et),some (.int (q':Int)),some (.ref u0),v6,v7]∧ao H H'∧lr H' u0 l1 l2 l3 u∧dk kinds ws (sh.drop i) q' u=dk kinds ws sh p ⟨[],[],[]⟩∧(u.hs.length≤i∧u.ns.length≤i∧u.vs.length≤i)∧Co u∧∃d m,pend d ((sh.drop i).map arV)=some 0∧eat d ((ws.drop q').map arV)=some m:=⟨_,fun _ _ _=>Iff.rfl⟩
 refine ⟨⟨sh,S4.tup hS⟩,m6 (xs:=sh) P1 ((eP1 _ _ _).mpr ⟨p,⟨[],[],[]⟩,none,none,rfl,S4,U4,rfl,⟨Nat.zero_le _,Nat.zero_le _,Nat.zero_le _⟩,⟨(fun _ h=>nomatch h),(fun _ h=>nomatch h)⟩,1,n,hTm,he⟩) (fun i σ H' _ h=>by obtain ⟨_,_,_,_,_,s,_⟩:=(eP1 _ _ _).mp h;exact s.tup hS) ?_ ?_⟩
 ·intro i v σ H5 hvi hh
  refine ob4 ((eP1 _ _ _).mp hh) fun q' u v6 v7 hh=>?_
  have s5:=hh.2.1
  have U5:=hh.2.2.1
  have e5:=hh.2.2.2.1
  have hul:=hh.2.2.2.2.1
  have huw:=hh.2.2.2.2.2.1
  have hdm:=hh.2.2.2.2.2.2
  obtain rfl:=hh.1
  clear hh
  obtain ⟨d,m,hp5,he5⟩:=hdm
  have fin:∀(q2:Nat) (z:Int) (u2:Und) (w6 w7:Option V) (H':Hp),z=(q2:Int)→ao H H'→lr H' u0 l1 l2 l3 u2→dk kinds ws (sh.drop (i+1)) q2 u2=dk kinds ws sh p ⟨[],[],[]⟩→(u2.hs.length≤i+1∧u2.ns.length≤i+1∧u2.vs.length≤i+1)→Co u2→(∃d m,pend d ((sh.drop (i+1)).map arV)=some 0∧eat d ((ws.drop q2).map arV)=some m)→P1 (i+1) [some (.ref kt),some (.ref st),some (.ref wt),some (.ref et),some (.int z),some (.ref u0),w6,w7] H':=fun q2 z u2 w6 w7 H' ez a1 a2 a3 a4 a5 a6=>(eP1 _ _ _).mpr ⟨q2,u2,w6,w7,by rw [ez],a1,a2,a3,a4,a5,a6⟩
  have hil:i < sh.length:=(List.getElem?_eq_some_iff.mp hvi).1
  have ed:sh.drop i=v::sh.drop (i+1):=by
   rw [List.drop_eq_getElem_cons hil]
   congr 1
   rw [List.getElem?_eq_getElem hil] at hvi
   exact Option.some.inj hvi
  rw [ed] at e5 hp5
  obtain ⟨d',rfl⟩:∃d',d=d'+1:=by
   cases d with
   | zero=>cases hp5
   | succ d'=>exact ⟨d',rfl⟩
  have hq:q' < ws.length:=by
   have a1:=yo _ _ _ he5
   have a2:=uj _ _ _ he5
   rw [List.length_map,List.length_drop] at a2
   omega
  have hx:ws[q']?=some ws[q']:=List.getElem?_eq_getElem hq
  obtain ⟨hxw,hxa,hxv⟩:=tw.w _ (List.getElem_mem hq)
  have hat:atI ws (q':Int)=some ws[q']:=ax hx
  have hvw:=hs v (List.mem_of_getElem? hvi)
  have hgd:ws.getD q' .non=ws[q']:=by rw [List.getD_eq_getElem?_getD,hx];rfl
  rw [mi,hgd] at e5
  generalize ws[q']=x at hx hxw hxa hxv hat hgd e5
  have hul':=u.Ey (cf kinds v) q' x hul
  have huw':=huw.put hxw (cf kinds v) q'
  obtain ⟨b1,b2,b3,b4,b5,b6⟩:=lets
  have fl:(kinds.map V.str).all gw=true:=List.all_eq_true.mpr fun x hx=>by obtain ⟨z,_,rfl⟩:=List.mem_map.mp hx;rfl
  push_cast [rIn]
  refine ⟨wt,ws,_,x,rfl,rfl,s5.tup hW,hat,_,.inr (s5.tup hK),hvw.flat,fl,?_⟩
  have nav:¬gq=V.str (Str.ofString "var"):=by decide+kernel
  have nva:¬gb=V.str (Str.ofString "any"):=by decide+kernel
  rcases fm (kinds:=kinds) hvw with ⟨rfl,h⟩ | ⟨rfl,h⟩ | ⟨⟨z,hz,rfl⟩,h⟩ | ⟨h,hno⟩
  ·rw [if_neg (by rw [show inV gq (kinds.map V.str)=false from hk.out (.inl rfl)];decide)]
   refine ⟨hvw.sc _,?_⟩
   rw [if_pos (show gq=V.str (Str.ofString "any") from rfl)]
   obtain ⟨k',rfl⟩:=hxw
   cases k' with
   | inl i0=>
    have hli:lies (cf kinds gq) gq (kV (Sum.inl i0))=true:=by unfold lies;rw [h,if_neg b1,if_pos rfl];rfl
    obtain ⟨d2,m2,hp6,he6⟩:=ij hk hvw hx ⟨_,rfl⟩ hp5 he5 hli
    rw [if_pos hli,h,if_neg b1] at e5
    rw [h,if_neg b1] at he6
    rw [h] at hul' huw'
    exact ⟨_,.int i0,true,rfl,wd (aq U5.1 rfl (bj U5.2.2.1 (by omega) (fin (q'+1) _ _ _ _ _ (by omega) (s5.upd f2 _) (U5.put2 n20 n21 n32 q' _) e5 hul' huw' ⟨d2,m2,hp6,he6⟩)))⟩
   | inr y=>
    have hli:¬lies (cf kinds gq) gq (kV (Sum.inr y))=true:=by unfold lies;rw [h,if_neg b1,if_pos rfl];exact Bool.false_ne_true
    rw [if_neg hli] at e5
    have z:=q H5 s5
    rw [←e5] at z
    refine ⟨_,.str y,false,rfl,qj ⟨hvw.sc _,?_⟩⟩
    rw [if_neg nav]
    refine ⟨hvw.sc2 ⟨_,rfl⟩,?_⟩
    rw [if_neg fun e=>hxa e.symm]
    exact z
  ·rw [if_neg (by rw [show inV gb (kinds.map V.str)=false from hk.out (.inr rfl)];decide)]
   refine ⟨hvw.sc _,?_⟩
   rw [if_neg nva]
   refine ⟨hvw.sc _,?_⟩
   rw [if_pos (show gb=V.str (Str.ofString "var") from rfl)]
   have hxw':=hxw
   obtain ⟨k',rfl⟩:=hxw
   cases k' with
   | inl i0=>
    have hli:¬lies (cf kinds gb) gb (kV (Sum.inl i0))=true:=by unfold lies;rw [h,if_neg b2,if_neg b4,if_pos rfl];exact Bool.false_ne_true
    rw [if_neg hli] at e5
    have z:=q H5 s5
    rw [←e5] at z
    refine ⟨_,.int i0,false,rfl,qj ⟨hvw.sc2 ⟨_,rfl⟩,?_⟩⟩
    rw [if_neg fun e=>hxv e.symm]
    exact z
   | inr y=>
    refine ⟨_,.str y,true,rfl,wd ⟨by show (4:Nat)≤sizeLine;decide,fun pl hpl=>⟨_,.inl (SqL.of ae),rfl,rfl,?_⟩⟩⟩
    have four:=zd hxw'
    have s6:=s5.trans (aa hpl (.lst [V.str (Str.ofString "add"),V.str (Str.ofString "sub"),V.str (Str.ofString "mul"),V.str (Str.ofString "neg")]))
    have U6:=U5.same (aa hpl (.lst [V.str (Str.ofString "add"),V.str (Str.ofString "sub"),V.str (Str.ofString "mul"),V.str (Str.ofString "neg")]))
    by_cases c:0 < arV (kV (Sum.inr y))
    ·have hli:¬lies (cf kinds gb) gb (kV (Sum.inr y))=true:=by
      unfold lies
      rw [h,if_neg b2,if_neg b4,if_pos rfl,decide_eq_false (by omega),Bool.and_false]
      decide
     rw [if_neg hli] at e5
     have z:=q _ s6
     rw [←e5] at z
     rw [if_neg (by rw [show inV (kV (Sum.inr y)) [V.str (Str.ofString "add"),V.str (Str.ofString "sub"),V.str (Str.ofString "mul"),V.str (Str.ofString "neg")]=true from four.mpr c];decide)]
     refine ⟨hvw.sc2 ⟨_,rfl⟩,?_⟩
     rw [if_neg fun e=>hxv e.symm]
     exact z
    ·have hli:lies (cf kinds gb) gb (kV (Sum.inr y))=true:=by
      unfold lies
      rw [h,if_neg b2,if_neg b4,if_pos rfl,decide_eq_true (by omega),Bool.and_true]
      rfl
     obtain ⟨d2,m2,hp6,he6⟩:=ij hk hvw hx ⟨_,rfl⟩ hp5 he5 hli
     rw [if_pos hli,h,if_neg b2] at e5
     rw [h,if_neg b2] at he6
     rw [h] at hul' huw'
     have c':inV (kV (Sum.inr y)) [V.str (Str.ofString "add"),V.str (Str.ofString "sub"),V.str (Str.ofString "mul"),V.str (Str.ofString "neg")]=false:=Bool.eq_false_iff.mpr fun e=>c (four.mp e)
     rw [if_pos (by rw [c'];decide)]
     exact aq U6.1 rfl (bj U6.2.2.2 (by omega) (fin (q'+1) _ _ _ _ _ (by omega) (s6.upd f3 _) (U6.put3 n30 n31 n32 q' _) e5 hul' huw' ⟨d2,m2,hp6,he6⟩))
  ·rw [if_pos (letH h)]
   have hli:lies (cf kinds (.str z)) (.str z) x=true:=by unfold lies;rw [if_pos h]
   obtain ⟨d2,m2,hp6,he6⟩:=ij hk hvw hx hxw hp5 he5 hli
   rw [if_pos hli,if_pos h,h] at e5
   rw [if_pos h] at he6
   rw [h] at hul' huw'
   have nel:et≠l1:=ag hE h1
   refine aq U5.1 rfl (bj U5.2.1 (by rw [List.length_map];omega) (aq (by rw [af nel];exact s5 _ _ hE) (ax (by rw [List.getElem?_map,List.getElem?_range hq];rfl)) (fin (endAt ws q') _ _ _ _ _ rfl (s5.upd h1 _) (U5.put1 n10 n21 n31 q' x) e5 hul' huw' ⟨d2,m2,hp6,he6⟩)))
  ·obtain ⟨na,nv⟩:=letO h
   rw [if_neg (by rw [hno];decide)]
   refine ⟨hvw.sc _,?_⟩
   rw [if_neg (show ¬v=V.str (Str.ofString "any") from na)]
   refine ⟨hvw.sc _,?_⟩
   rw [if_neg (show ¬v=V.str (Str.ofString "var") from nv)]
   refine ⟨hvw.sc2 hxw,?_⟩
   by_cases c:v=x
   ·have hli:lies (cf kinds v) v x=true:=by unfold lies;rw [h,if_neg b3,if_neg b5,if_neg b6];exact decide_eq_true c
    obtain ⟨d2,m2,hp6,he6⟩:=ij hk hvw hx hxw hp5 he5 hli
    rw [if_pos hli,h,if_neg b3,u.put0] at e5
    rw [h,if_neg b3] at he6
    rw [h,u.put0] at hul' huw'
    rw [if_pos c]
    exact fin (q'+1) _ _ _ _ _ (by omega) s5 U5 e5 hul' huw' ⟨d2,m2,hp6,he6⟩
   ·have hli:¬lies (cf kinds v) v x=true:=by unfold lies;rw [h,if_neg b3,if_neg b5,if_neg b6];exact fun e=>c (of_decide_eq_true e)
    rw [if_neg hli] at e5
    have z:=q H5 s5
    rw [←e5] at z
    rw [if_neg c]
    exact z
 ·intro σ H5 hh
  refine ob4 ((eP1 _ _ _).mp hh) fun q' u v6 v7 hh=>?_
  have s5:=hh.2.1
  have U5:=hh.2.2.1
  have e5:=hh.2.2.2.1
  have hul:=hh.2.2.2.2.1
  have huw:=hh.2.2.2.2.2.1
  have hdm:=hh.2.2.2.2.2.2
  obtain rfl:=hh.1
  clear hh
  obtain ⟨d,m,hp5,he5⟩:=hdm
  rw [List.drop_length] at e5
  have z:=q H5 s5
  rw [←e5] at z
  push_cast [and_true]
  refine aq U5.1 rfl ⟨_,.inl ⟨SqL.of U5.2.1,fun t1 ht1=>?_⟩⟩
  have U6:=U5.same (aa ht1 (.tup (u.hs.map plV)))
  refine aq U6.1 rfl ⟨_,.inl ⟨SqL.of U6.2.2.1,fun t2 ht2=>?_⟩⟩
  have U7:=U6.same (aa ht2 (.tup u.ns))
  refine aq U7.1 rfl ⟨_,.inl ⟨SqL.of U7.2.2.2,fun t3 ht3=>⟨by show (3:Nat)≤sizeLine;decide,fun t ht=>?_⟩⟩⟩
  exact z t _ ((aa ht1 _).trans ((aa ht2 _).trans ((aa ht3 _).trans (aa ht _)))) ⟨t1,t2,t3,ae,aa ht _ _ _ (aa ht3 _ _ _ (aa ht2 _ _ _ ae)),aa ht _ _ _ (aa ht3 _ _ _ ae),aa ht _ _ _ ae⟩ ⟨⟨huw.1,by omega⟩,⟨huw.2,by omega⟩,by omega⟩
noncomputable abbrev vt:Stmt:=top 24
theorem Kq:az ["deck","names","most","words","due","cell","more","room","far"] ["deck","names","most"] (ah vt):=⟨rfl,rfl,rfl,by decide+kernel,rfl,by decide+kernel,by decide+kernel⟩
theorem Mo (G:Gs w K mg) (h_law_next:Has P w K mg base k "_law_next" ["deck"] iz) (D:Def K mg "_law_term" vt ["deck","names","most"]):Has P w K mg base (k+1) "_law_term" ["deck","names","most"] sm:=by
 refine D.has Kq (fun vs H Q E h=>?_) (fun f cdv A outer s H vs Q E hr h=>?_)
 ·obtain ⟨_,_,_,_,_,_,_,rfl,_,_,_,_,_,_⟩:=h
  rfl
 have nd:=Kq.nd
 have hu:=b7 hr
 have hu0:=Nat.lt_of_succ_lt hu
 obtain ⟨d,nl,b,ns,zs,m,n,rfl,hD,hN,h1,h2,hn,q⟩:=h
 have m_len:=G.m_len
 have m_tuple:=G.m_tuple
 refine ⟨_,(A4 (A7 3 nd (AH (A2 0))) (A4 (A7 4 nd (A3 0)) (A4 (C3 (AE (@i7 _) (A0 4) (A3 0) (AB 0)) (A4 (A7 5 nd (AG h_law_next hr (A1 (A0 0) (A2 0)))) (A4 (A7 6 nd (A5 (AU 0) (A0 5) (A3 0))) (A4 (A7 7 nd (A5 (B8 0) (A5 (B8 0) (A0 2) (AA (AV 0) m_len cm (A1 (A0 3) (A2 0)))) (A0 4))) (A6 (AD (BD (BO (AE (@ow _) (A5 (AF 0) (A0 5) (A3 0)) (A3 0) (AB 0)) (BQ (AE (@i7 _) (A0 7) (A3 0) (AB 0))))) (A4 (AQ (AS PySem.F.plainAttrs_list PySem.F.slot_list_append PySem.F.type_list_append (AX 0) (A0 3) (A1 (A9 (AY 0) (AH (BF (AI (AI (AI (BG 0)))))) (A5 (AF 0) (A0 5) (A3 0))) (A2 0)))) (A6 (A7 4 nd (A5 (AO 0) (A0 4) (A3 0))))) (A6 (AD (BD (BO (AE (AJ 0) (A5 (AF 0) (A0 5) (A3 0)) (A3 0) (AB 0)) (BQ (AE (@i7 _) (A0 7) (A3 0) (AB 0))))) (A6 (AQ (AS PySem.F.plainAttrs_list PySem.F.slot_list_append PySem.F.type_list_append (AX 0) (A0 3) (A1 (AM 0) (A2 0))))) (A4 (A7 4 nd (A5 (B8 0) (A0 4) (A3 0))) (A4 (A7 8 nd (A9 (AY 0) (AH (A1 (A3 0) (A1 (A3 0) (A1 (A3 0) (A1 (A5 (@iq _) (A3 0) (A3 0)) (A1 (A5 (@iq _) (A3 0) (A3 0)) (A1 (A5 (@iq _) (A3 0) (A3 0)) (A2 0)))))))) (A5 (AF 0) (A5 (AU 0) (A0 6) (A3 0)) (A3 0)))) (A4 (A7 8 nd (A9 (AY 0) (AH (A1 (A5 (B8 0) (A5 (AF 0) (A5 (AU 0) (A0 6) (A3 0)) (A5 (@iq _) (A3 0) (A3 0))) (A3 0)) (A1 (A0 8) (A1 (A5 (B8 0) (A3 0) (A0 8)) (A2 0))))) (A5 (AF 0) (A5 (AU 0) (A0 6) (A3 0)) (A3 0)))) (A6 (AQ (AS PySem.F.plainAttrs_list PySem.F.slot_list_append PySem.F.type_list_append (AX 0) (A0 3) (A1 (A9 (AY 0) (AH (A1 (A9 (AY 0) (A0 1) (A3 0)) (A1 (A9 (AY 0) (A0 1) (A3 0)) (A1 (A9 (AY 0) (A0 1) (A3 0)) (A1 (A3 0) (A1 (A3 0) (A1 (C5 (@ng _) (A3 0)) (A1 (A3 0) (A1 (A0 8) (A1 (A0 8) (A2 0))))))))))) (A5 (AF 0) (A0 6) (A3 0))) (A2 0)))))))))))))))) (A6 (AC (B7 (BJ 0) m_tuple bq (A1 (A0 3) (A2 0)))))))),?_⟩
 rw [show start ["deck","names","most","words","due","cell","more","room","far"] [.ref d,.ref nl,.int (m:Int)]=[some (.ref d),some (.ref nl),some (.int (m:Int)),none,none,none,none,none,none] from rfl]
 clear hu hu0 nd hr
 push_cast [and_true]
 have sz:=sizeLine_eq
 refine ⟨Nat.zero_le _,fun p hp=>?_⟩
 have npd:p≠d:=(ag hD.1 hp).symm
 obtain ⟨P1,eP1⟩:∃P1:L2.St→Hp→Prop,∀σ H',P1 σ H'↔∃(ws:List V) (due:Nat) (v1 v2 v3 v4:Option V),σ=[some (.ref d),some (.ref nl),some (.int (m:Int)),some (.ref p),some (.int (due:Int)),v1,v2,v3,v4]∧au d H H'∧H' d=some (.lst [.ref b,.int ((n+ws.length:Nat):Int)])∧H' p=some (.lst ws)∧(∀v∈ws,twW v)∧pend 1 (ws.map arV)=some due∧ws.length+due≤m:=⟨_,fun _ _=>Iff.rfl⟩
 refine j5 P1 (fun σ H'=>m - qi H' p) ?_ ?_ ?_
 ·exact (eP1 _ _).mpr ⟨[],1,none,none,none,none,rfl,(au.refl d H).upd hp _,aa hp _ _ _ hD.1,ae,(fun _ h=>nomatch h),rfl,by show 0+1≤m;omega⟩
 ·intro σ H' hh
  refine ob6 ((eP1 _ _).mp hh) fun ws due v1 v2 v3 v4 hh=>?_
  have hS:=hh.2.1
  have hD':=hh.2.2.1
  have hp':=hh.2.2.2.1
  have hw:=hh.2.2.2.2.1
  have hpd:=hh.2.2.2.2.2.1
  have hr:=hh.2.2.2.2.2.2
  obtain rfl:=hh.1
  clear hh
  push_cast [and_true]
  have hDk:fk H' d b ns (n+ws.length):=hD.next hS hD'
  refine b8 (fun hdue=>ly hDk (by omega) fun c H1 s1 d1=>?_) fun hdue=>?_
  ·push_cast [ox,CPow]
   have hp1':H1 p=some (.lst ws):=s1 p _ npd hp'
   have hN1:=hN.ku hD (hS.trans s1)
   have at':∀i:Nat,i < 60→atI (zs.map V.str) (i:Int)=some (.str (zs.getD i "")):=fun i hi=>ax (by rw [List.getElem?_map,List.getD_eq_getElem?_getD,List.getElem?_eq_getElem (by rw [hN.2.1];exact hi)];rfl)
   have ok':∀i:Nat,i < 60→nmOk (zs.getD i ""):=fun i hi=>by
    rw [List.getD_eq_getElem?_getD,List.getElem?_eq_getElem (by rw [hN.2.1];exact hi)]
    exact hN.2.2.2 _ (List.getElem_mem _)
   have app:∀(v:V) (H2:Hp) (dd:Int),twW v→dd=(due:Int) - 1+(arV v:Int)→ws.length+due+arV v≤m→ao H1 H2→
     ∀w1 w2 w3 w4,oa (.ref p) [v] H2 fun _ H3=>P1 [some (.ref d),some (.ref nl),some (.int (m:Int)),some (.ref p),some (.int dd),w1,w2,w3,w4] H3∧m - qi H3 p < m - qi H' p:=by
    intro v H2 dd hv hdd hroom s2 w1 w2 w3 w4
    have hp2:=s2 _ _ hp1'
    refine ⟨p,ws,v,rfl,rfl,hp2,by omega,(eP1 _ _).mpr ⟨ws++[v],due - 1+arV v,w1,w2,w3,w4,by rw [show dd=((due - 1+arV v:Nat):Int) by omega],(hS.trans (s1.trans (au.of s2))).upd hp _,?_,ae,fun x hx=>?_,?_,?_⟩,?_⟩
    ·rw [af npd.symm,List.length_append]
     exact s2 _ _ d1
    ·rcases List.mem_append.mp hx with h | h
     ·exact hw x h
     ·rw [List.mem_singleton.mp h];exact hv
    ·rw [List.map_append]
     exact xk _ _ _ _ hpd (by omega)
    ·rw [List.length_append,List.length_singleton];omega
    ·rw [nq ae,nq hp',List.length_append,List.length_singleton];omega
   refine ⟨ws,.inl (SqL.of hp1'),b8 (fun c3=>b8 (fun r1=>⟨av hp1',by show (3:Nat)≤sizeLine;decide,fun p2 hp2=>?_⟩) fun r1=>⟨rfl,b8 (fun e4=>by omega) fun e4=>?_⟩) fun c3=>⟨rfl,b8 (fun e4=>b8 (fun r0=>⟨av hp1',?_⟩) fun r0=>?_) fun e4=>?_⟩⟩
   ·obtain ⟨y,hy,hym⟩:=cy [V.str (Str.ofString "add"),V.str (Str.ofString "sub"),V.str (Str.ofString "mul")] (c % 7) (Int.emod_nonneg _ (by decide)) (by show c % 7 < 3;omega)
    obtain ⟨z,rfl,a2⟩:∃z,y=V.str z∧arS z=2:=by
     simp only [List.mem_cons,List.not_mem_nil,or_false] at hym
     rcases hym with rfl | rfl | rfl
     ·exact ⟨_,rfl,by decide+kernel⟩
     ·exact ⟨_,rfl,by decide+kernel⟩
     ·exact ⟨_,rfl,by decide+kernel⟩
    have a2':arV (.str z)=2:=a2
    exact aq ae hy (app (.str z) _ ((due:Int)+1) (twW_op (by omega)) (by rw [a2'];omega) (by rw [a2'];omega) (aa hp2 _) _ _ _ _)
   ·refine ⟨by decide,by decide,by decide,by show (6:Nat)≤sizeLine;decide,fun p1 hp1=>?_⟩
    obtain ⟨f1,hf1,hm1⟩:=cy [V.int 3,V.int 7,V.int 41,V.int (10 ^ Int.toNat 3),V.int (10 ^ Int.toNat 9),V.int (10 ^ Int.toNat 29)] (c / 7 / 27 % 6) (Int.emod_nonneg _ (by decide)) (by show c / 7 / 27 % 6 < 6;omega)
    obtain ⟨i1,rfl⟩:∃i,f1=V.int i:=by
     simp only [List.mem_cons,List.not_mem_nil,or_false] at hm1
     rcases hm1 with rfl | rfl | rfl | rfl | rfl | rfl <;> exact ⟨_,rfl⟩
    refine aq ae hf1 ⟨by decide,by decide+kernel,by show (3:Nat)≤sizeLine;decide,fun p2 hp2=>?_⟩
    obtain ⟨f2,hf2,hm2⟩:=cy [V.int (c / 7 / 9 % 10 ^ Int.toNat 20 - 7),V.int i1,V.int (0 - i1)] (c / 7 / 9 % 3) (Int.emod_nonneg _ (by decide)) (by show c / 7 / 9 % 3 < 3;omega)
    obtain ⟨i2,rfl⟩:∃i,f2=V.int i:=by
     simp only [List.mem_cons,List.not_mem_nil,or_false] at hm2
     rcases hm2 with rfl | rfl | rfl <;> exact ⟨_,rfl⟩
    have s2:=(aa hp1 (.lst [V.int 3,V.int 7,V.int 41,V.int (10 ^ Int.toNat 3),V.int (10 ^ Int.toNat 9),V.int (10 ^ Int.toNat 29)])).trans (aa hp2 (.lst [V.int (c / 7 / 9 % 10 ^ Int.toNat 20 - 7),V.int i1,V.int (0 - i1)]))
    refine aq ae hf2 ⟨av (s2 _ _ hp1'),aq (s2 _ _ hN1.1) (at' 0 (by decide)) (aq (s2 _ _ hN1.1) (at' 50 (by decide)) (aq (s2 _ _ hN1.1) (at' 51 (by decide)) ⟨by show (9:Nat)≤sizeLine;decide,fun p3 hp3=>?_⟩))⟩
    obtain ⟨f3,hf3,hm3⟩:=cy [V.str (zs.getD 0 ""),V.str (zs.getD 50 ""),V.str (zs.getD 51 ""),V.int 0,V.int 2,V.int (-1),V.int 5,V.int i2,V.int i2] (c / 7 % 9) (Int.emod_nonneg _ (by decide)) (by show c / 7 % 9 < 9;omega)
    obtain ⟨t3,a3⟩:twW f3∧arV f3=0:=by
     simp only [List.mem_cons,List.not_mem_nil,or_false] at hm3
     rcases hm3 with rfl | rfl | rfl | rfl | rfl | rfl | rfl | rfl | rfl
     ·exact ⟨twW_name (ok' 0 (by decide)),(ok' 0 (by decide)).1⟩
     ·exact ⟨twW_name (ok' 50 (by decide)),(ok' 50 (by decide)).1⟩
     ·exact ⟨twW_name (ok' 51 (by decide)),(ok' 51 (by decide)).1⟩
     all_goals exact ⟨twW_int _,rfl⟩
    exact aq ae hf3 (app f3 _ ((due:Int) - 1) t3 (by rw [a3];omega) (by rw [a3];omega) (s2.trans (aa hp3 _)) _ _ _ _)
   ·have an:arV (.str (Str.ofString "neg"))=1:=zh
    exact app (.str (Str.ofString "neg")) H1 (due:Int) (twW_op (by decide+kernel)) (by rw [an];omega) (by rw [an];omega) (ao.refl _) _ _ _ _
   ·refine ⟨by decide,by decide,by decide,by show (6:Nat)≤sizeLine;decide,fun p1 hp1=>?_⟩
    obtain ⟨f1,hf1,hm1⟩:=cy [V.int 3,V.int 7,V.int 41,V.int (10 ^ Int.toNat 3),V.int (10 ^ Int.toNat 9),V.int (10 ^ Int.toNat 29)] (c / 7 / 27 % 6) (Int.emod_nonneg _ (by decide)) (by show c / 7 / 27 % 6 < 6;omega)
    obtain ⟨i1,rfl⟩:∃i,f1=V.int i:=by
     simp only [List.mem_cons,List.not_mem_nil,or_false] at hm1
     rcases hm1 with rfl | rfl | rfl | rfl | rfl | rfl <;> exact ⟨_,rfl⟩
    refine aq ae hf1 ⟨by decide,by decide+kernel,by show (3:Nat)≤sizeLine;decide,fun p2 hp2=>?_⟩
    obtain ⟨f2,hf2,hm2⟩:=cy [V.int (c / 7 / 9 % 10 ^ Int.toNat 20 - 7),V.int i1,V.int (0 - i1)] (c / 7 / 9 % 3) (Int.emod_nonneg _ (by decide)) (by show c / 7 / 9 % 3 < 3;omega)
    obtain ⟨i2,rfl⟩:∃i,f2=V.int i:=by
     simp only [List.mem_cons,List.not_mem_nil,or_false] at hm2
     rcases hm2 with rfl | rfl | rfl <;> exact ⟨_,rfl⟩
    have s2:=(aa hp1 (.lst [V.int 3,V.int 7,V.int 41,V.int (10 ^ Int.toNat 3),V.int (10 ^ Int.toNat 9),V.int (10 ^ Int.toNat 29)])).trans (aa hp2 (.lst [V.int (c / 7 / 9 % 10 ^ Int.toNat 20 - 7),V.int i1,V.int (0 - i1)]))
    refine aq ae hf2 ⟨av (s2 _ _ hp1'),aq (s2 _ _ hN1.1) (at' 0 (by decide)) (aq (s2 _ _ hN1.1) (at' 50 (by decide)) (aq (s2 _ _ hN1.1) (at' 51 (by decide)) ⟨by show (9:Nat)≤sizeLine;decide,fun p3 hp3=>?_⟩))⟩
    obtain ⟨f3,hf3,hm3⟩:=cy [V.str (zs.getD 0 ""),V.str (zs.getD 50 ""),V.str (zs.getD 51 ""),V.int 0,V.int 2,V.int (-1),V.int 5,V.int i2,V.int i2] (c / 7 % 9) (Int.emod_nonneg _ (by decide)) (by show c / 7 % 9 < 9;omega)
    obtain ⟨t3,a3⟩:twW f3∧arV f3=0:=by
     simp only [List.mem_cons,List.not_mem_nil,or_false] at hm3
     rcases hm3 with rfl | rfl | rfl | rfl | rfl | rfl | rfl | rfl | rfl
     ·exact ⟨twW_name (ok' 0 (by decide)),(ok' 0 (by decide)).1⟩
     ·exact ⟨twW_name (ok' 50 (by decide)),(ok' 50 (by decide)).1⟩
     ·exact ⟨twW_name (ok' 51 (by decide)),(ok' 51 (by decide)).1⟩
     all_goals exact ⟨twW_int _,rfl⟩
    exact aq ae hf3 (app f3 _ ((due:Int) - 1) t3 (by rw [a3];omega) (by rw [a3];omega) (s2.trans (aa hp3 _)) _ _ _ _)
   ·refine ⟨by decide,by decide,by decide,by show (6:Nat)≤sizeLine;decide,fun p1 hp1=>?_⟩
    obtain ⟨f1,hf1,hm1⟩:=cy [V.int 3,V.int 7,V.int 41,V.int (10 ^ Int.toNat 3),V.int (10 ^ Int.toNat 9),V.int (10 ^ Int.toNat 29)] (c / 7 / 27 % 6) (Int.emod_nonneg _ (by decide)) (by show c / 7 / 27 % 6 < 6;omega)
    obtain ⟨i1,rfl⟩:∃i,f1=V.int i:=by
     simp only [List.mem_cons,List.not_mem_nil,or_false] at hm1
     rcases hm1 with rfl | rfl | rfl | rfl | rfl | rfl <;> exact ⟨_,rfl⟩
    refine aq ae hf1 ⟨by decide,by decide+kernel,by show (3:Nat)≤sizeLine;decide,fun p2 hp2=>?_⟩
    obtain ⟨f2,hf2,hm2⟩:=cy [V.int (c / 7 / 9 % 10 ^ Int.toNat 20 - 7),V.int i1,V.int (0 - i1)] (c / 7 / 9 % 3) (Int.emod_nonneg _ (by decide)) (by show c / 7 / 9 % 3 < 3;omega)
    obtain ⟨i2,rfl⟩:∃i,f2=V.int i:=by
     simp only [List.mem_cons,List.not_mem_nil,or_false] at hm2
     rcases hm2 with rfl | rfl | rfl <;> exact ⟨_,rfl⟩
    have s2:=(aa hp1 (.lst [V.int 3,V.int 7,V.int 41,V.int (10 ^ Int.toNat 3),V.int (10 ^ Int.toNat 9),V.int (10 ^ Int.toNat 29)])).trans (aa hp2 (.lst [V.int (c / 7 / 9 % 10 ^ Int.toNat 20 - 7),V.int i1,V.int (0 - i1)]))
    refine aq ae hf2 ⟨av (s2 _ _ hp1'),aq (s2 _ _ hN1.1) (at' 0 (by decide)) (aq (s2 _ _ hN1.1) (at' 50 (by decide)) (aq (s2 _ _ hN1.1) (at' 51 (by decide)) ⟨by show (9:Nat)≤sizeLine;decide,fun p3 hp3=>?_⟩))⟩
    obtain ⟨f3,hf3,hm3⟩:=cy [V.str (zs.getD 0 ""),V.str (zs.getD 50 ""),V.str (zs.getD 51 ""),V.int 0,V.int 2,V.int (-1),V.int 5,V.int i2,V.int i2] (c / 7 % 9) (Int.emod_nonneg _ (by decide)) (by show c / 7 % 9 < 9;omega)
    obtain ⟨t3,a3⟩:twW f3∧arV f3=0:=by
     simp only [List.mem_cons,List.not_mem_nil,or_false] at hm3
     rcases hm3 with rfl | rfl | rfl | rfl | rfl | rfl | rfl | rfl | rfl
     ·exact ⟨twW_name (ok' 0 (by decide)),(ok' 0 (by decide)).1⟩
     ·exact ⟨twW_name (ok' 50 (by decide)),(ok' 50 (by decide)).1⟩
     ·exact ⟨twW_name (ok' 51 (by decide)),(ok' 51 (by decide)).1⟩
     all_goals exact ⟨twW_int _,rfl⟩
    exact aq ae hf3 (app f3 _ ((due:Int) - 1) t3 (by rw [a3];omega) (by rw [a3];omega) (s2.trans (aa hp3 _)) _ _ _ _)
  ·have d0:due=0:=by omega
   subst d0
   refine ⟨ws,.inl ⟨SqL.of hp',fun t ht=>?_⟩⟩
   have htn:=hS.free hD' ht
   exact q t (n+ws.length) _ ws (hS.upd htn _) (by rw [af (ag hD' ht)];exact hD') (by omega) htn ae ⟨hw,hpd,by omega⟩ (by omega)
 ·intro σ H' Q1 Q2 hq h
  simp only [Bh,tOp,rI0,ik,tC,jv,i6,tB] at h ⊢
  obtain ⟨v,hv,i,j,e1,e2,k,e3,h⟩:=h
  exact ⟨v,hv,i,j,e1,e2,k,e3,hq _ _ h⟩
noncomputable abbrev mq:Stmt:=top 21
theorem Ec:az ["deck","kinds","words","due","left","wide","cell","more","far","number"] ["deck","kinds"] (ah mq):=⟨rfl,rfl,rfl,by decide+kernel,rfl,by decide+kernel,by decide+kernel⟩
theorem Jj (G:Gs w K mg) (h_law_next:Has P w K mg base k "_law_next" ["deck"] iz) (D:Def K mg "_law_shape" mq ["deck","kinds"]):Has P w K mg base (k+1) "_law_shape" ["deck","kinds"] rf:=by
 refine D.has Ec (fun vs H Q E h=>?_) (fun f cdv A outer s H vs Q E hr h=>?_)
 ·obtain ⟨_,_,_,_,_,_,rfl,_,_,_,_,_,_,_⟩:=h
  rfl
 have nd:=Ec.nd
 have hu:=b7 hr
 have hu0:=Nat.lt_of_succ_lt hu
 obtain ⟨d,kt,b,ns,kinds,n,rfl,hD,hK,hk,h1,h2,hn,q⟩:=h
 have m_int:=G.m_int
 have m_len:=G.m_len
 have m_tuple:=G.m_tuple
 refine ⟨_,(A4 (A7 2 nd (AH (A2 0))) (A4 (A7 3 nd (A3 0)) (A4 (A7 4 nd (AG h_law_next hr (A1 (A0 0) (A2 0)))) (A4 (A7 5 nd (BC (AJ 0) (A5 (AF 0) (A5 (AU 0) (A0 4) (A3 0)) (A3 0)) (A3 0) (AB 0))) (A4 (A7 4 nd (A9 (AY 0) (AH (A1 (A5 (AO 0) (A3 0) (A5 (AF 0) (A0 4) (A3 0))) (A1 (A3 0) (A2 0)))) (B7 (@gp _) m_int ko (A1 (A0 5) (A2 0))))) (A4 (C3 (AE (@i7 _) (A0 3) (A3 0) (AB 0)) (A4 (A7 6 nd (AG h_law_next hr (A1 (A0 0) (A2 0)))) (A4 (A7 7 nd (A5 (AU 0) (A0 6) (A3 0))) (A6 (AD (BD (BO (AE (@i7 _) (A0 4) (A3 0) (AB 0)) (BQ (AE (@ow _) (A5 (AF 0) (A0 6) (A3 0)) (A5 (AO 0) (A3 0) (B7 (@gp _) m_int ko (A1 (A0 5) (A2 0)))) (AB 0))))) (A4 (A7 4 nd (A5 (B8 0) (A0 4) (A3 0))) (A4 (AQ (AS PySem.F.plainAttrs_list PySem.F.slot_list_append PySem.F.type_list_append (AX 0) (A0 2) (A1 (A9 (AY 0) (AH (BF (AI (AI (AI (AI (BG 0))))))) (A5 (AF 0) (A0 7) (A3 0))) (A2 0)))) (A6 (A7 3 nd (A5 (AO 0) (A0 3) (B7 (@gp _) m_int ko (A1 (BC (@ow _) (A5 (AF 0) (A0 7) (A3 0)) (A3 0) (AB 0)) (A2 0)))))))) (A6 (AD (BD (BO (AE (@i7 _) (A0 4) (A3 0) (AB 0)) (BQ (AE (AJ 0) (A5 (AF 0) (A0 6) (A3 0)) (A3 0) (AB 0))))) (A4 (A7 4 nd (A5 (B8 0) (A0 4) (A3 0))) (A4 (A7 3 nd (A5 (B8 0) (A0 3) (A3 0))) (A4 (A7 8 nd (A9 (AY 0) (AH (A1 (A3 0) (A1 (A3 0) (A1 (A3 0) (A1 (A5 (@iq _) (A3 0) (A3 0)) (A1 (A5 (@iq _) (A3 0) (A3 0)) (A1 (A5 (@iq _) (A3 0) (A3 0)) (A2 0)))))))) (A5 (AF 0) (A5 (AU 0) (A0 7) (A3 0)) (A3 0)))) (A4 (A7 9 nd (A9 (AY 0) (AH (A1 (A3 0) (A1 (A3 0) (A1 (C5 (@ng _) (A3 0)) (A1 (A3 0) (A1 (A0 8) (A1 (A5 (B8 0) (A3 0) (A0 8)) (A2 0)))))))) (A5 (AF 0) (A5 (AU 0) (A0 7) (A3 0)) (A3 0)))) (A6 (AQ (AS PySem.F.plainAttrs_list PySem.F.slot_list_append PySem.F.type_list_append (AX 0) (A0 2) (A1 (A9 (AY 0) (AH (A1 (AM 0) (A1 (AM 0) (A1 (A0 9) (A2 0))))) (A5 (AF 0) (A0 7) (A3 0))) (A2 0))))))))) (A4 (A7 3 nd (A5 (B8 0) (A0 3) (A3 0))) (A6 (AQ (AS PySem.F.plainAttrs_list PySem.F.slot_list_append PySem.F.type_list_append (AX 0) (A0 2) (A1 (A9 (AW 0) (A0 1) (A5 (AF 0) (A0 7) (AA (AV 0) m_len cm (A1 (A0 1) (A2 0))))) (A2 0))))))))))))) (A6 (AC (B7 (BJ 0) m_tuple bq (A1 (A0 2) (A2 0))))))))))),?_⟩
 rw [show start ["deck","kinds","words","due","left","wide","cell","more","far","number"] [.ref d,.ref kt]=[some (.ref d),some (.ref kt),none,none,none,none,none,none,none,none] from rfl]
 clear hu hu0 nd hr
 push_cast [and_true]
 have sz:=sizeLine_eq
 refine ⟨Nat.zero_le _,fun p hp=>?_⟩
 have npd:p≠d:=(ag hD.1 hp).symm
 refine ly (b:=b) (ns:=ns) (n:=n) ⟨aa hp _ _ _ hD.1,aa hp _ _ _ hD.2⟩ (by omega) fun c0 H1 s1 d1=>?_
 push_cast [ox]
 refine ⟨rfl,by show (2:Nat)≤sizeLine;decide,fun p1 hp1=>?_⟩
 have D0:fk (upd H p (.lst [])) d b ns n:=⟨aa hp _ _ _ hD.1,aa hp _ _ _ hD.2⟩
 have D1:=D0.next s1 d1
 have S1:au d H H1:=(au.of (aa hp _)).trans s1
 have hp1':H1 p=some (.lst []):=s1 p _ npd ae
 obtain ⟨L0,hL1,hL2,hat⟩:∃L0:Nat,1≤L0∧L0≤5∧atI [V.int (1+c0 % 4),V.int 5] (if c0 / 4 % 8=3 then 1 else 0)=some (.int (L0:Int)):=by
  have a0:0≤c0 % 4:=Int.emod_nonneg _ (by decide)
  by_cases e:c0 / 4 % 8=3
  ·rw [if_pos e]
   exact ⟨5,by decide,by decide,rfl⟩
  ·rw [if_neg e]
   exact ⟨(1+c0 % 4).toNat,by omega,by omega,(show atI [V.int (1+c0 % 4),V.int 5] 0=some (V.int (1+c0 % 4)) from rfl).trans (by rw [show (((1+c0 % 4).toNat:Nat):Int)=1+c0 % 4 by omega])⟩
 refine aq ae hat ?_
 have S2:=S1.upd (S1.free d1 hp1) (.lst [V.int (1+c0 % 4),V.int 5])
 have d2:=aa hp1 (.lst [V.int (1+c0 % 4),V.int 5]) _ _ d1
 have p2:=aa hp1 (.lst [V.int (1+c0 % 4),V.int 5]) _ _ hp1'
 generalize upd H1 p1 (.lst [V.int (1+c0 % 4),V.int 5])=H2 at S2 d2 p2 ⊢
 obtain ⟨P1,eP1⟩:∃P1:L2.St→Hp→Prop,∀σ H',P1 σ H'↔∃(ws:List V) (due left:Nat) (v6 v7 v8 v9:Option V),σ=[some (.ref d),some (.ref kt),some (.ref p),some (.int (due:Int)),some (.int (left:Int)),some (.bl (decide (c0 / 4 % 8=3))),v6,v7,v8,v9]∧au d H H'∧H' d=some (.lst [.ref b,.int ((n+1+ws.length:Nat):Int)])∧H' p=some (.lst ws)∧(∀v∈ws,isW v)∧pend 1 (ws.map arV)=some due∧ws.length+due+2*left≤11∧(ws.filter fun v=>!inV v (kinds.map V.str)).length+left≤5:=⟨_,fun _ _=>Iff.rfl⟩
 refine j5 P1 (fun σ H'=>11 - qi H' p) ?_ ?_ ?_
 ·exact (eP1 _ _).mpr ⟨[],1,L0,none,none,none,none,rfl,S2,d2,p2,(fun _ h=>nomatch h),rfl,by show 0+1+2*L0≤11;omega,by show 0+L0≤5;omega⟩
 ·intro σ H' hh
  refine ob7 ((eP1 _ _).mp hh) fun ws due left v6 v7 v8 v9 hh=>?_
  have hS:=hh.2.1
  have hD':=hh.2.2.1
  have hp':=hh.2.2.2.1
  have hw:=hh.2.2.2.2.1
  have hpd:=hh.2.2.2.2.2.1
  have hr:=hh.2.2.2.2.2.2.1
  have hfew:=hh.2.2.2.2.2.2.2
  obtain rfl:=hh.1
  clear hh
  push_cast [and_true]
  have hDk:fk H' d b ns (n+1+ws.length):=hD.next hS hD'
  refine b8 (fun hdue=>ly hDk (by omega) fun c H3 s3 d3=>?_) fun hdue=>?_
  ·push_cast [ox,CPow]
   have p3:H3 p=some (.lst ws):=s3 p _ npd hp'
   have k3:H3 kt=some (.tup (kinds.map V.str)):=(hS.trans s3) kt _ (ee hK hD.1 (by intro e;cases e)) hK
   have app:∀(v:V) (H4:Hp) (dd:Int) (left':Nat),isW v→dd=(due:Int) - 1+(arV v:Int)→ws.length+due+arV v+2*left'≤11→(left'+1=left∨(left'=left∧inV v (kinds.map V.str)=true))→ao H3 H4→
     ∀w6 w7 w8 w9,oa (.ref p) [v] H4 fun _ H5=>P1 [some (.ref d),some (.ref kt),some (.ref p),some (.int dd),some (.int (left':Int)),some (.bl (decide (c0 / 4 % 8=3))),w6,w7,w8,w9] H5∧11 - qi H5 p < 11 - qi H' p:=by
    intro v H4 dd left' hv hdd hroom hlf s4 w6 w7 w8 w9
    have p4:=s4 _ _ p3
    refine ⟨p,ws,v,rfl,rfl,p4,by omega,(eP1 _ _).mpr ⟨ws++[v],due - 1+arV v,left',w6,w7,w8,w9,by rw [show dd=((due - 1+arV v:Nat):Int) by omega],(hS.trans (s3.trans (au.of s4))).upd hp _,?_,ae,fun x hx=>?_,?_,?_,?_⟩,?_⟩
    ·rw [af npd.symm,List.length_append]
     exact s4 _ _ d3
    ·rcases List.mem_append.mp hx with h | h
     ·exact hw x h
     ·rw [List.mem_singleton.mp h];exact hv
    ·rw [List.map_append]
     exact xk _ _ _ _ hpd (by omega)
    ·rw [List.length_append,List.length_singleton];omega
    ·rw [List.filter_append,List.length_append]
     rcases hlf with h | ⟨h,hin⟩
     ·have:([v].filter fun v=>!inV v (kinds.map V.str)).length≤1:=List.length_filter_le _ _
      omega
     ·have:[v].filter (fun v=>!inV v (kinds.map V.str))=[]:=by rw [List.filter_cons,hin];rfl
      rw [this,List.length_nil]
      omega
    ·rw [nq ae,nq hp',List.length_append,List.length_singleton];omega
   refine b8 (fun l0=>b8 (fun a1=>⟨av p3,by show (4:Nat)≤sizeLine;decide,fun p4 hp4=>?_⟩) fun a1=>b8 (fun _=>⟨rfl,b8 (fun e3=>?_) fun e3=>?_⟩) fun nl=>absurd l0 nl) fun nl=>b8 (fun l0=>absurd l0 nl) fun _=>?_
   ·obtain ⟨y,hy,hw2,ha2⟩:∃y,atI [V.str (Str.ofString "add"),V.str (Str.ofString "sub"),V.str (Str.ofString "mul"),V.str (Str.ofString "neg")] (c / 5 % 4)=some y∧isW y∧((due:Int)+if c / 5 % 4 < 3 then 1 else 0)=(due:Int) - 1+(arV y:Int):=by
     rcases (show c / 5 % 4=((0:Nat):Int)∨c / 5 % 4=((1:Nat):Int)∨c / 5 % 4=((2:Nat):Int)∨c / 5 % 4=((3:Nat):Int) by omega) with e | e | e | e
     ·rw [e];exact ⟨_,ax rfl,⟨Sum.inr _,rfl⟩,by rw [show arV (.str (Str.ofString "add"))=2 by decide+kernel,if_pos (by decide)];omega⟩
     ·rw [e];exact ⟨_,ax rfl,⟨Sum.inr _,rfl⟩,by rw [show arV (.str (Str.ofString "sub"))=2 by decide+kernel,if_pos (by decide)];omega⟩
     ·rw [e];exact ⟨_,ax rfl,⟨Sum.inr _,rfl⟩,by rw [show arV (.str (Str.ofString "mul"))=2 by decide+kernel,if_pos (by decide)];omega⟩
     ·rw [e];exact ⟨_,ax rfl,⟨Sum.inr _,rfl⟩,by rw [show arV (.str (Str.ofString "neg"))=1 from zh,if_neg (by decide)];omega⟩
    have ar2:=ug y
    obtain ⟨l',rfl⟩:∃l',left=l'+1:=⟨left - 1,by omega⟩
    rw [show ((l'+1:Nat):Int) - 1=(l':Int) by omega]
    exact aq ae hy (app y _ _ l' hw2 ha2 (by omega) (.inl rfl) (aa hp4 _) _ _ _ _)
   ·obtain ⟨l',rfl⟩:∃l',left=l'+1:=⟨left - 1,by omega⟩
    rw [show ((l'+1:Nat):Int) - 1=(l':Int) by omega]
    refine ⟨by decide,by decide,by decide,by show (6:Nat)≤sizeLine;decide,fun p4 hp4=>?_⟩
    obtain ⟨f1,hf1,hm1⟩:=cy [V.int 3,V.int 7,V.int 41,V.int (10 ^ Int.toNat 3),V.int (10 ^ Int.toNat 9),V.int (10 ^ Int.toNat 29)] (c / 5 / 18 % 6) (Int.emod_nonneg _ (by decide)) (by show c / 5 / 18 % 6 < 6;omega)
    obtain ⟨i1,rfl⟩:∃i,f1=V.int i:=by
     simp only [List.mem_cons,List.not_mem_nil,or_false] at hm1
     rcases hm1 with rfl | rfl | rfl | rfl | rfl | rfl <;> exact ⟨_,rfl⟩
    refine aq ae hf1 ⟨by show (6:Nat)≤sizeLine;decide,fun p5 hp5=>?_⟩
    obtain ⟨f2,hf2,hm2⟩:=cy [V.int 0,V.int 2,V.int (-1),V.int 5,V.int i1,V.int (0 - i1)] (c / 5 / 3 % 6) (Int.emod_nonneg _ (by decide)) (by show c / 5 / 3 % 6 < 6;omega)
    obtain ⟨i2,rfl⟩:∃i,f2=V.int i:=by
     simp only [List.mem_cons,List.not_mem_nil,or_false] at hm2
     rcases hm2 with rfl | rfl | rfl | rfl | rfl | rfl <;> exact ⟨_,rfl⟩
    have s5:=(aa hp4 (.lst [V.int 3,V.int 7,V.int 41,V.int (10 ^ Int.toNat 3),V.int (10 ^ Int.toNat 9),V.int (10 ^ Int.toNat 29)])).trans (aa hp5 (.lst [V.int 0,V.int 2,V.int (-1),V.int 5,V.int i1,V.int (0 - i1)]))
    refine aq ae hf2 ⟨av (s5 _ _ p3),by show (3:Nat)≤sizeLine;decide,fun p6 hp6=>?_⟩
    obtain ⟨f3,hf3,hm3⟩:=cy [V.str (Str.ofString "any"),V.str (Str.ofString "var"),V.int i2] (c / 5 % 3) (Int.emod_nonneg _ (by decide)) (by show c / 5 % 3 < 3;omega)
    obtain ⟨t3,a3⟩:isW f3∧arV f3=0:=by
     simp only [List.mem_cons,List.not_mem_nil,or_false] at hm3
     rcases hm3 with rfl | rfl | rfl
     ·exact ⟨⟨Sum.inr _,rfl⟩,ve⟩
     ·exact ⟨⟨Sum.inr _,rfl⟩,uy⟩
     ·exact ⟨⟨Sum.inl _,rfl⟩,rfl⟩
    exact aq ae hf3 (app f3 _ ((due:Int) - 1) l' t3 (by rw [a3];omega) (by rw [a3];omega) (.inl rfl) (s5.trans (aa hp6 _)) _ _ _ _)
   ·have hm:=cy (kinds.map V.str) (c / 5 % (((kinds.map V.str).length:Nat):Int)) (Int.emod_nonneg _ (by rw [List.length_map];omega)) (Int.emod_lt_of_pos _ (by rw [List.length_map];omega))
    obtain ⟨y,hy,hym⟩:=hm
    obtain ⟨z,hz,rfl⟩:=List.mem_map.mp hym
    have a0:arV (.str z)=0:=(hk z hz).1
    have kn:inV (.str z) (kinds.map V.str)=true:=rh hym
    exact ⟨av p3,_,.inr (SqT.of k3),by rw [List.length_map];omega,br k3 hy (app (.str z) H3 ((due:Int) - 1) left ⟨Sum.inr z,rfl⟩ (by rw [a0];omega) (by rw [a0];omega) (.inr ⟨rfl,kn⟩) (ao.refl _) _ _ _ _)⟩
   ·have hm:=cy (kinds.map V.str) (c / 5 % (((kinds.map V.str).length:Nat):Int)) (Int.emod_nonneg _ (by rw [List.length_map];omega)) (Int.emod_lt_of_pos _ (by rw [List.length_map];omega))
    obtain ⟨y,hy,hym⟩:=hm
    obtain ⟨z,hz,rfl⟩:=List.mem_map.mp hym
    have a0:arV (.str z)=0:=(hk z hz).1
    have kn:inV (.str z) (kinds.map V.str)=true:=rh hym
    exact ⟨av p3,_,.inr (SqT.of k3),by rw [List.length_map];omega,br k3 hy (app (.str z) H3 ((due:Int) - 1) left ⟨Sum.inr z,rfl⟩ (by rw [a0];omega) (by rw [a0];omega) (.inr ⟨rfl,kn⟩) (ao.refl _) _ _ _ _)⟩
  ·have d0:due=0:=by omega
   subst d0
   refine ⟨ws,.inl ⟨SqL.of hp',fun t ht=>?_⟩⟩
   have htn:=hS.free hD' ht
   exact q t (n+1+ws.length) _ ws (hS.upd htn _) (by rw [af (ag hD' ht)];exact hD') (by omega) htn ae ⟨hw,hpd,by omega,by omega⟩
 ·intro σ H' Q1 Q2 hq h
  simp only [Bh,tOp,rI0,ik,tC,jv,i6,tB] at h ⊢
  obtain ⟨v,hv,i,j,e1,e2,k,e3,h⟩:=h
  exact ⟨v,hv,i,j,e1,e2,k,e3,hq _ _ h⟩
noncomputable abbrev lg:Stmt:=top 22
theorem Fd:az ["kinds","shape","stack","deeds","free","back","at","word","count","read","turn","box"] ["kinds","shape"] (ah lg):=⟨rfl,rfl,rfl,by decide+kernel,rfl,by decide+kernel,by decide+kernel⟩
theorem Hv (G:Gs w K mg) (D:Def K mg "_law_deeds" lg ["kinds","shape"]):Has P w K mg base (k+1) "_law_deeds" ["kinds","shape"] (se K):=by
 refine D.has Fd (fun vs H Q E h=>?_) (fun f cdv A outer s H vs Q E hr h=>?_)
 ·obtain ⟨_,_,_,_,rfl,_,_,_,_,_⟩:=h
  rfl
 have nd:=Fd.nd
 have hu:=b7 hr
 have hu0:=Nat.lt_of_succ_lt hu
 obtain ⟨kt,st,kinds,sh,rfl,hK,hS,hk,ok,q⟩:=h
 have m_int:=G.m_int
 have m_isinstance:=G.m_isinstance
 have m_len:=G.m_len
 have m_range:=G.m_range
 have m_str:=G.m_str
 have m_tuple:=G.m_tuple
 refine ⟨_,(A4 (A7 2 nd (AH (A2 0))) (A4 (A7 3 nd (AH (A2 0))) (A4 (A7 4 nd (AH (BF (AI (AI (AI (BG 0))))))) (A4 (B0 (BS m_range (A1 (AA (AV 0) m_len cm (A1 (A0 1) (A2 0))) (A2 0))) (AR 5 nd (by first | exact Or.inl rfl | exact Or.inr rfl)) (A4 (A7 6 nd (A5 (B8 0) (A5 (B8 0) (AA (AV 0) m_len cm (A1 (A0 1) (A2 0))) (A3 0)) (A0 5))) (A4 (C1 7 nd (A9 (AW 0) (A0 1) (A0 6))) (A4 (A7 8 nd (B7 (@x6 _) m_str ky (A1 (AA (AV 0) m_len cm (A1 (BR (BK ["one"] ["word","kinds"] [7,0] (And.intro rfl (And.intro rfl trivial)) (And.intro (And.intro rfl (And.intro rfl rfl)) (And.intro (And.intro rfl (And.intro rfl rfl)) trivial))) (BW (C7 (@Mr _) (A0 1) (@ny _) (C8 (A5 (AO 0) (A0 6) (A3 0))))) (fun _ _ _=>(B9 0 (show List.Nodup (["one","word","kinds"]:List Str) by decide+kernel))) (fun _ _ _=>(@pif1 _ _ _ (BD (BY (AE (AJ 0) (A0 0) (A8 1) (AB 0)) (BZ (BD (BO (BP (@la _ K rfl) (A8 1) (A8 2)) (BQ (BP (@la _ K rfl) (A0 0) (A8 2)))))))))) (fun _ _ _=>(A0 0))) (A2 0))) (A2 0)))) (A4 (AD (BP (BU 0) (A8 7) (A8 0)) (A4 (AQ (AS PySem.F.plainAttrs_list PySem.F.slot_list_append PySem.F.type_list_append (AX 0) (A0 2) (A1 (A5 (BT 0) (AM 0) (A0 8)) (A2 0)))) (A6 (@Av _ _))) (AN 0)) (A4 (A7 9 nd (AH (A2 0))) (A4 (B0 (BS m_range (A1 (A5 (AO 0) (B7 (@gp _) m_int ko (A1 (@yt _ _ _ _ _ _ _ _ (BU 0) (A8 7) (AH (BF (AI (AI (AI (AI (BG 0))))))) (by with_unfolding_all rfl)) (A2 0))) (B7 (@gp _) m_int ko (A1 (@yt _ _ _ _ _ _ _ _ (BU 0) (A8 7) (AH (BF (AI (AI (AI (BG 0)))))) (by with_unfolding_all rfl)) (A2 0)))) (A2 0))) (AR 10 nd (by first | exact Or.inl rfl | exact Or.inr rfl)) (A6 (AQ (AS PySem.F.plainAttrs_list PySem.F.slot_list_append PySem.F.type_list_append (AX 0) (A0 9) (A1 (C6 PySem.F.plainAttrs_list PySem.F.slot_list_pop PySem.F.type_list_pop (@yw _) (A0 2)) (A2 0)))))) (A4 (AQ (AS PySem.F.plainAttrs_list PySem.F.slot_list_extend PySem.F.type_list_extend (@xi _) (A0 4) (A1 (BR (BK ["box"] [] [] trivial trivial) (BN (A0 9)) (fun _ _ _=>(B9 0 (show List.Nodup (["box"]:List Str) by decide+kernel))) (fun _ _ _=>(@pif1 _ _ _ (AE (AJ 0) (A9 (@jt _) (A0 0) (A3 0)) (AM 0) (AB 0)))) (fun _ _ _=>(A0 0))) (A2 0)))) (A4 (A7 11 nd (AM 0)) (BM (AD (AE (@i7 _) (A0 6) (A3 0) (AB 0)) (A6 (A7 11 nd (C6 PySem.F.plainAttrs_list PySem.F.slot_list_pop PySem.F.type_list_pop (@yw _) (A0 4)))) (AN 0)) (BM (AD (AE (AJ 0) (A8 7) (AM 0) (AB 0)) (A6 (AQ (AS PySem.F.plainAttrs_list PySem.F.slot_list_append PySem.F.type_list_append (AX 0) (A0 3) (A1 (AL (A1 (AM 0) (A1 (A0 11) (A1 (A5 (BT 0) (AM 0) (A0 8)) (A2 0))))) (A2 0))))) (A6 (AD (AE (AJ 0) (A8 7) (AM 0) (AB 0)) (A6 (AQ (AS PySem.F.plainAttrs_list PySem.F.slot_list_append PySem.F.type_list_append (AX 0) (A0 3) (A1 (AL (A1 (AM 0) (A1 (A0 11) (A1 (A5 (BT 0) (AM 0) (A0 8)) (A2 0))))) (A2 0))))) (A6 (AD (B6 (AA (AT 0) m_isinstance ak (A1 (A8 7) (A1 (AK m_int ko) (A2 0))))) (A6 (AQ (AS PySem.F.plainAttrs_list PySem.F.slot_list_append PySem.F.type_list_append (AX 0) (A0 3) (A1 (AL (A1 (AM 0) (A1 (A0 11) (A1 (A8 7) (A2 0))))) (A2 0))))) (A6 (AQ (AS PySem.F.plainAttrs_list PySem.F.slot_list_append PySem.F.type_list_append (AX 0) (A0 3) (A1 (A5 (@E1 _) (AL (A1 (A8 7) (A1 (A0 11) (A2 0)))) (B7 (BJ 0) m_tuple bq (A1 (A0 9) (A2 0)))) (A2 0)))))))))) (A6 (AQ (AS PySem.F.plainAttrs_list PySem.F.slot_list_append PySem.F.type_list_append (AX 0) (A0 2) (A1 (A0 11) (A2 0)))))))))))))))) (A4 (AD (AE (AJ 0) (AA (AV 0) m_len cm (A1 (A0 3) (A2 0))) (A3 0) (AB 0)) (A6 (AC (AL (A1 (AL (BF (AI (AI (BH (BG 0)))))) (A1 (AL (BF (AI (AI (AI (AI (BG 0))))))) (A2 0)))))) (AN 0)) (A6 (AC (B7 (BJ 0) m_tuple bq (A1 (A0 3) (A2 0)))))))))),?_⟩
 rw [show start ["kinds","shape","stack","deeds","free","back","at","word","count","read","turn","box"] [.ref kt,.ref st]=[some (.ref kt),some (.ref st),none,none,none,none,none,none,none,none,none,none] from rfl]
 clear hu hu0 nd hr
 push_cast [and_true]
 have sz:=sizeLine_eq
 have hlen:=ok.len
 refine ⟨Nat.zero_le _,fun sp h1=>⟨Nat.zero_le _,fun dp h2=>⟨by show (3:Nat)≤sizeLine;decide,fun fp h3=>?_⟩⟩⟩
 have nsd:sp≠dp:=ag ae h2
 have nsf:sp≠fp:=ag (aa h2 _ _ _ ae) h3
 have ndf:dp≠fp:=ag ae h3
 have S1:=aa h1 (.lst [])
 have fd:=S1.free h2
 have S2:=S1.trans (aa h2 (.lst []))
 have ff:=S2.free h3
 have S3:=S2.trans (aa h3 (.lst [V.str (Str.ofString "t3"),V.str (Str.ofString "t2"),V.str (Str.ofString "t1")]))
 have z3:=aa h3 (.lst [V.str (Str.ofString "t3"),V.str (Str.ofString "t2"),V.str (Str.ofString "t1")]) _ _ (aa h2 (.lst []) _ _ (ae (H:=H) (a:=sp) (o:=.lst [])))
 have d3:=aa h3 (.lst [V.str (Str.ofString "t3"),V.str (Str.ofString "t2"),V.str (Str.ofString "t1")]) _ _ (ae (H:=upd H sp (.lst [])) (a:=dp) (o:=.lst []))
 have f3:upd (upd (upd H sp (.lst [])) dp (.lst [])) fp (.lst [V.str (Str.ofString "t3"),V.str (Str.ofString "t2"),V.str (Str.ofString "t1")]) fp=some (.lst ([Str.ofString "t3",Str.ofString "t2",Str.ofString "t1"].map V.str)):=ae
 generalize upd (upd (upd H sp (.lst [])) dp (.lst [])) fp (.lst [V.str (Str.ofString "t3"),V.str (Str.ofString "t2"),V.str (Str.ofString "t1")])=H3 at S3 z3 d3 f3 ⊢
 refine ⟨sh,.inr (SqT.of (S3 _ _ hS)),by omega,by omega,?_⟩
 rw [show ((sh.length:Nat):Int).toNat=sh.length by omega]
 obtain ⟨P1,eP1⟩:∃P1:Nat→L2.St→Hp→Prop,∀j σ H',P1 j σ H'↔∃(zs fs:List Str) (ds:List V) (v5 v6 v7 v8 v9 v10 v11:Option V),σ=[some (.ref kt),some (.ref st),some (.ref sp),some (.ref dp),some (.ref fp),v5,v6,v7,v8,v9,v10,v11]∧ao H H'∧H' sp=some (.lst (zs.map V.str))∧H' dp=some (.lst ds)∧H' fp=some (.lst (fs.map V.str))∧ds.length≤j∧DI kinds sh (sh.length - j) zs fs:=⟨_,fun _ _ _=>Iff.rfl⟩
 refine fj (lo:=0) P1 ((eP1 _ _ _).mpr ⟨[],_,[],none,none,none,none,none,none,none,rfl,S3,z3,d3,f3,Nat.le_refl _,DI.start ok⟩) ?_ ?_
 ·intro j σ H5 hj hh
  refine ob10 ((eP1 _ _ _).mp hh) fun zs fs ds v5 v6 v7 v8 v9 v10 v11 hh=>?_
  have s5:=hh.2.1
  have z5:=hh.2.2.1
  have d5:=hh.2.2.2.1
  have f5:=hh.2.2.2.2.1
  have hdl:=hh.2.2.2.2.2.1
  have di:=hh.2.2.2.2.2.2
  obtain rfl:=hh.1
  clear hh
  obtain ⟨p,hp⟩:∃p,p+j+1=sh.length:=⟨sh.length - 1 - j,by omega⟩
  rw [show sh.length - j=p+1 by omega] at di
  have ej:(fun _:Unit=>sh.length - (j+1))=fun _=>p:=by funext _;omega
  have hpl:p < sh.length:=by omega
  have hv:sh[p]?=some sh[p]:=List.getElem?_eq_getElem hpl
  have hvw:=ok.w _ (List.getElem_mem hpl)
  have hat:atI sh (p:Int)=some sh[p]:=ax hv
  generalize sh[p]=v at hv hvw hat
  have fl:(kinds.map V.str).all gw=true:=List.all_eq_true.mpr fun x hx=>by obtain ⟨z,_,rfl⟩:=List.mem_map.mp hx;rfl
  have zll:=Ei _ _ di.pd
  rw [List.length_map,List.length_drop] at zll
  push_cast [and_true]
  refine ⟨sh,.inr (SqT.of (s5 _ _ hS)),?_⟩
  rw [show ((sh.length:Int) - 1 - (0+(j:Int)))=(p:Int) by omega]
  refine br (s5 _ _ hS) hat (Mf (s5 _ _ hS) fun a H6 s6 h6=>⟨a,rfl,⟨_,SqT.of h6⟩,fun D hD=>?_⟩)
  have e6:(p:Int)+1=((p+1:Nat):Int):=by omega
  rw [e6,uz sh (p+1) (by omega)] at h6
  have S6:=s5.trans s6
  refine Cr (fun i ys=>True) (SqT.of h6) (by rw [List.length_take];omega) hD trivial (fun i x ys H1 G' K' hx hP hl2 hS' hG hK'=>?_) fun ys H7 hP hl2 s7 hD2=>?_
  ·have hxw:=ok.w x (List.mem_of_mem_take (List.mem_of_getElem? hx))
   have kk:=SqT.of (K:=K) (hS' _ _ (S6 _ _ hK))
   push_cast [rIn]
   exact ⟨hxw.sc2 hvw,b8 (fun _=>hK' _ _ (ao.refl _) trivial) fun _=>⟨_,.inr kk,hvw.flat,fl,b8 (fun _=>⟨_,.inr kk,hxw.flat,fl,b8 (fun _=>hK' _ _ (ao.refl _) trivial) fun _=>hG _ (ao.refl _) trivial⟩) fun _=>hG _ (ao.refl _) trivial⟩⟩
  rw [List.length_take] at hl2
  have S7:=S6.trans s7
  have z7:=s7 _ _ (s6 _ _ z5)
  have d7:=s7 _ _ (s6 _ _ d5)
  have f7:=s7 _ _ (s6 _ _ f5)
  obtain ⟨tx1,tx2⟩:=Dj (n:=ys.length) (by omega)
  refine ⟨ys,.inl (SqL.of hD2),tx2,kt,_,rfl,.inr (SqT.of (S7 _ _ hK)),hvw.flat,fl,?_⟩
  generalize Ez (V.int (ys.length:Int))=tx at tx1 ⊢
  clear hD hD2 hl2 tx2 s7 s6 h6 S6 hP
  rw [show ∀x y:Bool,(if false=true then x else y)=y from fun _ _=>rfl]
  have h1l:(Str.ofString "h").length=1:=by decide+kernel
  cases hin:inV v (kinds.map V.str) with
  | true=>
   refine ifY rfl ?_
   refine ⟨av z7,by omega,(bj (K:=K) z7 (by rw [List.length_map];omega) ?_).2⟩
   push_cast [tCont]
   exact (eP1 _ _ _).mpr ⟨zs++[Str.ofString "h"++tx],fs,ds,_,_,_,_,_,_,_,rfl,S7.upd h1 _,by rw [ae,List.map_append];rfl,by rw [af nsd.symm];exact d7,by rw [af nsf.symm];exact f7,by omega,by rw [show sh.length - (j+1)=p from congrFun ej ()];exact di.hole hv (Oc hk hvw hin) (isT_h tx) (by rw [Str.length_append,h1l];omega)⟩
  | false=>
   refine ifN Bool.false_ne_true ?_
   push_cast [and_true]
   refine ⟨Nat.zero_le _,fun rp hrp=>⟨by show (4:Nat)≤sizeLine;decide,fun p1 hp1=>⟨p1,_,rfl,.inl (SqL.of ae),hvw.flat,rfl,by show (3:Nat)≤sizeLine;decide,fun p2 hp2=>⟨p2,_,rfl,.inl (SqL.of ae),hvw.flat,rfl,?_⟩⟩⟩⟩
   dsimp only
   rw [show ∀x y:Bool,(if false=true then x else y)=y from fun _ _=>rfl,show ∀x y:Bool,(if false=true then x else y)=y from fun _ _=>rfl]
   have oc:=Fy hvw
   rw [show ((if inV v [V.str (Str.ofString "add"),V.str (Str.ofString "sub"),V.str (Str.ofString "mul"),V.str (Str.ofString "neg")]=true then (1:Int) else 0)+if inV v [V.str (Str.ofString "add"),V.str (Str.ofString "sub"),V.str (Str.ofString "mul")]=true then 1 else 0)=(arV v:Int) from oc]
   have ar2:=ug v
   refine ⟨by omega,by omega,?_⟩
   rw [show ((arV v:Nat):Int).toNat=arV v by omega]
   have frp:=S7.free hrp
   have nrs:rp≠sp:=(ag z7 hrp).symm
   have nrd:rp≠dp:=(ag d7 hrp).symm
   have nrf:rp≠fp:=(ag f7 hrp).symm
   have q8:=(aa hrp (.lst [])).trans ((aa hp1 (.lst [V.str (Str.ofString "add"),V.str (Str.ofString "sub"),V.str (Str.ofString "mul"),V.str (Str.ofString "neg")])).trans (aa hp2 (.lst [V.str (Str.ofString "add"),V.str (Str.ofString "sub"),V.str (Str.ofString "mul")])))
   have r8:=aa hp2 (.lst [V.str (Str.ofString "add"),V.str (Str.ofString "sub"),V.str (Str.ofString "mul")]) _ _ (aa hp1 (.lst [V.str (Str.ofString "add"),V.str (Str.ofString "sub"),V.str (Str.ofString "mul"),V.str (Str.ofString "neg")]) _ _ (ae (H:=H7) (a:=rp) (o:=.lst [])))
   have S8:=S7.trans q8
   have z8:=q8 _ _ z7
   have d8:=q8 _ _ d7
   have f8:=q8 _ _ f7
   generalize upd (upd (upd H7 rp (.lst [])) p1 (.lst [V.str (Str.ofString "add"),V.str (Str.ofString "sub"),V.str (Str.ofString "mul"),V.str (Str.ofString "neg")])) p2 (.lst [V.str (Str.ofString "add"),V.str (Str.ofString "sub"),V.str (Str.ofString "mul")])=H8 at q8 r8 S8 z8 d8 f8 ⊢
   obtain ⟨hale,_,_,_⟩:=di.less hv
   obtain ⟨P2,eP2⟩:∃P2:Nat→L2.St→Hp→Prop,∀k σ H',P2 k σ H'↔∃v10:Option V,σ=[some (.ref kt),some (.ref st),some (.ref sp),some (.ref dp),some (.ref fp),some (.int (0+(j:Int))),some (.int (p:Int)),some v,some (.str tx),some (.ref rp),v10,v11]∧ao H H'∧H' sp=some (.lst ((zs.take (zs.length - k)).map V.str))∧H' rp=some (.lst ((zs.drop (zs.length - k)).reverse.map V.str))∧H' dp=some (.lst ds)∧H' fp=some (.lst (fs.map V.str)):=⟨_,fun _ _ _=>Iff.rfl⟩
   refine fj (lo:=0) P2 ?_ ?_ ?_
   ·refine (eP2 _ _ _).mpr ⟨v10,rfl,S8,?_,?_,d8,f8⟩
    ·rw [Nat.sub_zero,List.take_length];exact z8
    ·rw [Nat.sub_zero,List.drop_length];exact r8
   ·intro k σ H9 hk9 hh
    obtain ⟨w10,hh⟩:=(eP2 _ _ _).mp hh
    have s9:=hh.2.1
    have z9:=hh.2.2.1
    have r9:=hh.2.2.2.1
    have d9:=hh.2.2.2.2.1
    have f9:=hh.2.2.2.2.2
    obtain rfl:=hh.1
    clear hh
    push_cast [and_true]
    obtain ⟨m,hm⟩:∃m,m+1=zs.length - k:=⟨zs.length - k - 1,by omega⟩
    rw [←hm] at z9 r9
    have ek:(fun _:Unit=>zs.length - (k+1))=fun _=>m:=by funext _;omega
    have hml:m < zs.length:=by omega
    have et:zs.take (m+1)=zs.take m++[zs[m]]:=by rw [List.take_add_one,List.getElem?_eq_getElem hml];rfl
    have ed9:zs.drop m=zs[m]::zs.drop (m+1):=List.drop_eq_getElem_cons hml
    rw [et,List.map_append] at z9
    refine ⟨av r9,za z9 (bj (K:=K) (by rw [af nrs];exact r9) (by rw [List.length_map,List.length_reverse,List.length_drop];omega) ((eP2 _ _ _).mpr ⟨_,rfl,(s9.upd h1 _).upd frp _,by rw [show zs.length - (k+1)=m from congrFun ek (),af nrs.symm,ae],?_,by rw [af nrd.symm,af nsd.symm];exact d9,by rw [af nrf.symm,af nsf.symm];exact f9⟩)).2⟩
    rw [show zs.length - (k+1)=m from congrFun ek (),ae,ed9,List.reverse_cons,List.map_append]
    rfl
   ·intro σ H9 hh
    obtain ⟨w10,hh⟩:=(eP2 _ _ _).mp hh
    have s9:=hh.2.1
    have z9:=hh.2.2.1
    have r9:=hh.2.2.2.1
    have d9:=hh.2.2.2.2.1
    have f9:=hh.2.2.2.2.2
    obtain rfl:=hh.1
    clear hh
    obtain ⟨rd,hrd⟩:∃rd,rd=zs.drop (zs.length - arV v):=⟨_,rfl⟩
    obtain ⟨zs0,hz0⟩:∃zs0,zs0=zs.take (zs.length - arV v):=⟨_,rfl⟩
    rw [←hrd] at r9
    rw [←hz0] at z9
    have ezs:zs=zs0++rd:=by rw [hrd,hz0,List.take_append_drop]
    have rdl:rd.length=arV v:=by rw [hrd,List.length_drop];omega
    obtain ⟨dp1,dp2,dp3⟩:=di.put hk ok hv hin ezs rdl
    push_cast [and_true]
    refine ⟨av f9,⟨_,SqL.of r9⟩,fun D hD=>?_⟩
    refine Ov (fun i ys=>ys=((rd.reverse.take i).filter isT).map V.str) (SqL.of r9) (by rw [List.length_map,List.length_reverse];omega) hD rfl (fun i x ys H1 G' K' hx hP hl2 hS' hG hK'=>?_) fun ys H10 hP hl2 s10 hD2=>?_
    ·rw [List.getElem?_map] at hx
     obtain ⟨z,hz,rfl⟩:=Option.map_eq_some_iff.mp hx
     have hzr:z∈rd:=List.mem_reverse.mp (List.mem_of_getElem? hz)
     obtain ⟨zl1,zl2⟩:=di.zl z (by rw [ezs];exact List.mem_append_right _ hzr)
     obtain ⟨c,hc,hct⟩:=J5 zl1
     have tk:rd.reverse.take (i+1)=rd.reverse.take i++[z]:=by rw [List.take_add_one,hz];rfl
     push_cast [rIxS]
     refine ⟨by omega,c,hc,rfl,b8 (fun e=>hK' _ _ (ao.refl _) ?_) fun e=>hG _ (ao.refl _) ?_⟩
     ·have e':isT z=true:=hct.mp (by rw [e])
      rw [tk,List.filter_append,List.map_append,hP,List.filter_cons,e']
      rfl
     ·have e':isT z=false:=Bool.eq_false_iff.mpr fun e2=>e (V.str.inj (hct.mpr e2))
      rw [tk,List.filter_append,List.map_append,hP,List.filter_cons,e']
      show _=_++[]
      rw [List.append_nil]
    ·rw [List.length_map,List.take_length] at hP
     obtain ⟨gs,hgs⟩:∃gs,gs=rd.reverse.filter isT:=⟨_,rfl⟩
     rw [←hgs] at hP
     have gl:gs.length=tc rd:=by rw [hgs];unfold tc;rw [List.filter_reverse,List.length_reverse]
     have gt:∀y∈gs,isT y=true∧1≤y.length∧y.length≤100:=fun y hy=>by
      rw [hgs] at hy
      obtain ⟨y1,y2⟩:=List.mem_filter.mp hy
      exact ⟨y2,di.zl y (by rw [ezs];exact List.mem_append_right _ (List.mem_reverse.mp y1))⟩
     have tl:tc rd≤rd.length:=List.length_filter_le _ _
     have fl3:fs.length≤3:=by have:=di.three;omega
     subst hP
     refine ⟨fp,D,fs.map V.str,gs.map V.str,rfl,rfl,s10 _ _ f9,hD2,by rw [List.length_map,List.length_map];omega,?_⟩
     have S11:=(s9.trans s10).upd ff (.lst (fs.map V.str++gs.map V.str))
     have z11:upd H10 fp (.lst (fs.map V.str++gs.map V.str)) sp=some (.lst (zs0.map V.str)):=by rw [af nsf];exact s10 _ _ z9
     have r11:upd H10 fp (.lst (fs.map V.str++gs.map V.str)) rp=some (.lst (rd.reverse.map V.str)):=by rw [af nrf];exact s10 _ _ r9
     have d11:upd H10 fp (.lst (fs.map V.str++gs.map V.str)) dp=some (.lst ds):=by rw [af ndf];exact s10 _ _ d9
     have f11:upd H10 fp (.lst (fs.map V.str++gs.map V.str)) fp=some (.lst ((fs++gs).map V.str)):=by rw [ae,List.map_append]
     generalize upd H10 fp (.lst (fs.map V.str++gs.map V.str))=H11 at S11 z11 r11 d11 f11 ⊢
     have ft:∀y∈fs++gs,isT y=true∧1≤y.length∧y.length≤100:=fun y hy=>by
      rcases List.mem_append.mp hy with g | g
      ·exact di.fl y g
      ·exact gt y g
     have fgl:(fs++gs).length=fs.length+tc rd:=by rw [List.length_append,gl]
     generalize fs++gs=fg at f11 ft fgl
     refine d4 (fun σ' H12=>∃(box:Str) (fs2:List Str),σ'=[some (.ref kt),some (.ref st),some (.ref sp),some (.ref dp),some (.ref fp),some (.int (0+(j:Int))),some (.int (p:Int)),some v,some (.str tx),some (.ref rp),w10,some (.str box)]∧ao H H12∧H12 sp=some (.lst (zs0.map V.str))∧H12 rp=some (.lst (rd.reverse.map V.str))∧H12 dp=some (.lst ds)∧H12 fp=some (.lst (fs2.map V.str))∧DI kinds sh p (zs0++[box]) fs2) ?_ ?_
     ·push_cast [and_true]
      refine b8 (fun p0=>?_) fun p0=>⟨S11,z11,r11,d11,fg,f11,dp2 _ fg fgl Nb (by decide+kernel) (by decide+kernel) ft⟩
      have ne:fg≠[]:=by
       intro e
       rw [e] at fgl
       have:=dp3 (by omega)
       simp at fgl
       omega
      have ec:fg.dropLast++[fg.getLast ne]=fg:=List.dropLast_concat_getLast ne
      rw [←ec,List.map_append] at f11
      have hb:=ft _ (List.getLast_mem ne)
      have el:fg.dropLast.length+1=fg.length:=by rw [List.length_dropLast];have:=List.length_pos_iff.mpr ne;omega
      refine za f11 ⟨_,rfl,S11.upd ff _,by rw [af nsf];exact z11,by rw [af nrf];exact r11,by rw [af ndf];exact d11,fg.dropLast,ae,?_⟩
      exact dp1 _ _ (by omega) hb.1 hb.2.1 hb.2.2 fun y hy=>ft y ((List.dropLast_sublist fg).subset hy)
     rintro _ H12 ⟨box,fs2,rfl,s12,z12,r12,d12,f12,di12⟩
     have hbl:=di12.zl box (List.mem_append_right _ List.mem_cons_self)
     refine d4 (fun σ' H13=>∃ds2:List V,σ'=[some (.ref kt),some (.ref st),some (.ref sp),some (.ref dp),some (.ref fp),some (.int (0+(j:Int))),some (.int (p:Int)),some v,some (.str tx),some (.ref rp),w10,some (.str box)]∧ao H H13∧H13 sp=some (.lst (zs0.map V.str))∧H13 dp=some (.lst ds2)∧H13 fp=some (.lst (fs2.map V.str))∧ds2.length≤j+1) ?_ ?_
     ·push_cast [and_true]
      have nl1:(Str.ofString "n").length=1:=by decide+kernel
      have vl1:(Str.ofString "v").length=1:=by decide+kernel
      have app:∀(y:V) (H':Hp),ao H12 H'→oa (.ref dp) [y] H' fun _ H1=>ao H H1∧H1 sp=some (.lst (zs0.map V.str))∧∃x:List V,H1 dp=some (.lst x)∧H1 fp=some (.lst (fs2.map V.str))∧x.length≤j+1:=fun y H' s'=>
       (bj (K:=K) (s' _ _ d12) (by omega) ⟨(s12.trans s').upd fd _,by rw [af nsd];exact s' _ _ z12,ds++[y],ae,by rw [af ndf.symm];exact s' _ _ f12,by rw [List.length_append,List.length_singleton];omega⟩).2
      refine ⟨hvw.sc _,b8 (fun _=>⟨av d12,by omega,by show (3:Nat)≤sizeLine;decide,fun p3 hp3=>app _ _ (aa hp3 _)⟩) fun _=>⟨hvw.sc _,b8 (fun _=>⟨av d12,by omega,by show (3:Nat)≤sizeLine;decide,fun p3 hp3=>app _ _ (aa hp3 _)⟩) fun _=>?_⟩⟩
      obtain ⟨k',rfl⟩:=hvw
      cases k' with
      | inl i0=>exact ⟨_,.int i0,true,rfl,wd ⟨av d12,by show (3:Nat)≤sizeLine;decide,fun p3 hp3=>app _ _ (aa hp3 _)⟩⟩
      | inr z0=>exact ⟨_,.str z0,false,rfl,qj ⟨av d12,by show (2:Nat)≤sizeLine;decide,fun p3 hp3=>⟨_,.inl ⟨SqL.of (aa hp3 _ _ _ r12),fun l hl=>Bo (aa hl _ _ _ ae) ae (by rw [List.length_map,List.length_reverse];show 2+rd.length≤_;omega) fun b H14 s14 h14=>app _ _ ((aa hp3 _).trans ((aa hl _).trans s14))⟩⟩⟩⟩
     ·rintro _ H13 ⟨ds2,rfl,s13,z13,d13,f13,hd13⟩
      push_cast [and_true]
      have z0l:zs0.length≤zs.length:=by rw [hz0,List.length_take];omega
      exact bj z13 (by rw [List.length_map];omega) ((eP1 _ _ _).mpr ⟨zs0++[box],fs2,ds2,_,_,_,_,_,_,_,rfl,s13.upd h1 _,by rw [ae,List.map_append];rfl,by rw [af nsd.symm];exact d13,by rw [af nsf.symm];exact f13,hd13,by rw [show sh.length - (j+1)=p from congrFun ej ()];exact di12⟩)
 ·intro σ H5 hh
  refine ob10 ((eP1 _ _ _).mp hh) fun zs fs ds v5 v6 v7 v8 v9 v10 v11 hh=>?_
  have s5:=hh.2.1
  have z5:=hh.2.2.1
  have d5:=hh.2.2.2.1
  have f5:=hh.2.2.2.2.1
  have hdl:=hh.2.2.2.2.2.1
  have di:=hh.2.2.2.2.2.2
  obtain rfl:=hh.1
  clear hh
  push_cast [and_true]
  refine ⟨ds,.inl (SqL.of d5),rfl,b8 (fun _=>⟨by show (3:Nat)≤sizeLine;decide,fun p1 hp1=>⟨by show (4:Nat)≤sizeLine;decide,fun p2 hp2=>⟨by show (2:Nat)≤sizeLine;decide,fun p3 hp3=>?_⟩⟩⟩) fun _=>⟨ds,.inl ⟨SqL.of d5,fun l hl=>q l _ _ (s5.trans (aa hl _)) ae⟩⟩⟩
  exact q p3 _ _ (((s5.trans (aa hp1 _)).trans (aa hp2 _)).trans (aa hp3 _)) ae
noncomputable abbrev tq:Stmt:=top 23
theorem Ip:az ["deck","names","cell","many","drawn","kinds","first","shapes","k","one","shape","rules","kind","price","at"] ["deck","names"] (ah tq):=⟨rfl,rfl,rfl,by decide+kernel,rfl,by decide+kernel,by decide+kernel⟩
theorem Oh (G:Gs w K mg) (h_law_deeds:Has P w K mg base k "_law_deeds" ["kinds","shape"] (se K)) (h_law_next:Has P w K mg base k "_law_next" ["deck"] iz) (h_law_shape:Has P w K mg base k "_law_shape" ["deck","kinds"] rf) (D:Def K mg "_law_book" tq ["deck","names"]):Has P w K mg base (k+1) "_law_book" ["deck","names"] yp:=by
 refine D.has Ip (fun vs H Q E h=>?_) (fun f cdv A outer s H vs Q E hr h=>?_)
 ·obtain ⟨_,_,_,_,_,_,rfl,_,_,_,_⟩:=h
  rfl
 have nd:=Ip.nd
 have hu:=b7 hr
 have hu0:=Nat.lt_of_succ_lt hu
 obtain ⟨d,nl,b,ns,zs,n,rfl,hD,hN,hn,q⟩:=h
 have m_len:=G.m_len
 have m_range:=G.m_range
 have m_tuple:=G.m_tuple
 refine ⟨_,(A4 (C1 2 nd (AG h_law_next hr (A1 (A0 0) (A2 0)))) (A4 (A7 3 nd (A5 (AO 0) (A3 0) (A5 (AF 0) (A8 2) (A3 0)))) (A4 (A7 4 nd (A5 (AO 0) (A3 0) (A5 (AF 0) (A5 (AU 0) (A8 2) (A3 0)) (A3 0)))) (BM (AD (AE (AJ 0) (A5 (AF 0) (A5 (AU 0) (A8 2) (A3 0)) (A3 0)) (A3 0) (AB 0)) (A4 (A7 3 nd (A5 (AO 0) (A3 0) (A5 (AF 0) (A5 (AU 0) (A8 2) (A3 0)) (A3 0)))) (A6 (A7 4 nd (A3 0)))) (AN 0)) (A4 (A7 5 nd (B7 (BJ 0) m_tuple bq (A1 (C7 (@sj _) (A0 1) (@ny _) (C8 (A0 3))) (A2 0)))) (A4 (A7 6 nd (A9 (AW 0) (A0 5) (A3 0))) (BM (C1 7 nd (AH (A1 (AL (A1 (A0 6) (A1 (AL (A1 (AM 0) (A2 0))) (A2 0)))) (A1 (AL (A1 (A0 6) (A1 (AL (A1 (AM 0) (A2 0))) (A2 0)))) (A1 (AL (A1 (A0 6) (A1 (AL (A1 (AM 0) (A1 (A0 6) (A1 (A0 6) (A2 0))))) (A2 0)))) (A1 (AL (A1 (A0 6) (A1 (AL (A1 (AM 0) (A1 (A0 6) (A2 0)))) (A2 0)))) (A2 0))))))) (A4 (C1 7 nd (BR (BK ["k"] ["cell","shapes"] [2,7] (And.intro rfl (And.intro rfl trivial)) (And.intro (And.intro rfl (And.intro rfl rfl)) (And.intro (And.intro rfl (And.intro rfl rfl)) trivial))) (BS m_range (A1 (A3 0) (A2 0))) (fun _ _ _=>(B9 0 (show List.Nodup (["k","cell","shapes"]:List Str) by decide+kernel))) (fun _ _ _=>(@pif1 _ _ _ (AE (@Af _) (A5 (AF 0) (A5 (AU 0) (A5 (AU 0) (A8 1) (A3 0)) (A9 (C0 K) (AH (BF (BH (BH (BH (BH (BG 0))))))) (A0 0))) (A3 0)) (A3 0) (AB 0)))) (fun _ _ _=>(A9 (C0 K) (A8 2) (A0 0))))) (A4 (B0 (BS m_range (A1 (A0 4) (A2 0))) (AR 8 nd (by first | exact Or.inl rfl | exact Or.inr rfl)) (A4 (A7 9 nd (AG h_law_next hr (A1 (A0 0) (A2 0)))) (A4 (A7 10 nd (AG h_law_shape hr (A1 (A0 0) (A1 (A0 5) (A2 0))))) (BM (AD (AE (AJ 0) (A5 (AF 0) (A0 9) (A3 0)) (A3 0) (AB 0)) (A6 (A7 10 nd (AL (A1 (A9 (AW 0) (A0 5) (A5 (AF 0) (A5 (AU 0) (A0 9) (A3 0)) (AA (AV 0) m_len cm (A1 (A0 5) (A2 0))))) (A2 0))))) (AN 0)) (A6 (AQ (AS PySem.F.plainAttrs_list PySem.F.slot_list_append PySem.F.type_list_append (AX 0) (A8 7) (A1 (AL (A1 (A9 (AW 0) (A0 5) (A5 (AF 0) (A5 (AU 0) (A0 9) (A3 0)) (AA (AV 0) m_len cm (A1 (A0 5) (A2 0))))) (A1 (A0 10) (A2 0)))) (A2 0))))))))) (A4 (A7 11 nd (AH (A2 0))) (A4 (B0 (BN (A8 7)) (C4 (AZ (AR 12 nd (by first | exact Or.inl rfl | exact Or.inr rfl)) (AZ (AR 10 nd (by first | exact Or.inl rfl | exact Or.inr rfl)) (@iy _)))) (A4 (A7 9 nd (AG h_law_next hr (A1 (A0 0) (A2 0)))) (A4 (A7 13 nd (A9 (AY 0) (AH (A1 (A5 (AO 0) (A3 0) (A5 (AF 0) (A5 (AU 0) (A0 9) (A3 0)) (A3 0))) (A1 (A5 (AO 0) (A3 0) (A5 (AF 0) (A5 (AU 0) (A0 9) (A3 0)) (A3 0))) (A1 (A5 (AO 0) (A3 0) (A5 (AF 0) (A5 (AU 0) (A0 9) (A3 0)) (A3 0))) (A2 0))))) (A5 (AF 0) (A0 9) (A3 0)))) (A6 (AQ (AS PySem.F.plainAttrs_list PySem.F.slot_list_append PySem.F.type_list_append (AX 0) (A0 11) (A1 (AL (A1 (A9 (AY 0) (A0 1) (A5 (AO 0) (A3 0) (AA (AV 0) m_len cm (A1 (A0 11) (A2 0))))) (A1 (A0 12) (A1 (A0 13) (A1 (A0 10) (A1 (AG h_law_deeds hr (A1 (A0 5) (A1 (A0 10) (A2 0)))) (A2 0))))))) (A2 0)))))))) (A4 (A7 14 nd (A5 (AF 0) (A5 (AU 0) (A8 2) (A3 0)) (AA (AV 0) m_len cm (A1 (A0 11) (A2 0))))) (A6 (AC (AL (A1 (A0 5) (A1 (B7 (BJ 0) m_tuple bq (A1 (A5 (@op_cat _) (C7 (@sj _) (A0 11) (C8 (A0 14)) (@ny _)) (C7 (@sj _) (A0 11) (@ny _) (C8 (A0 14)))) (A2 0))) (A2 0)))))))))))))))))),?_⟩
 rw [show start ["deck","names","cell","many","drawn","kinds","first","shapes","k","one","shape","rules","kind","price","at"] [.ref d,.ref nl]=[some (.ref d),some (.ref nl),none,none,none,none,none,none,none,none,none,none,none,none,none] from rfl]
 clear hu hu0 nd hr
 push_cast [and_true]
 have sz:=sizeLine_eq
 refine ly hD (by omega) fun c H1 s1 d1=>?_
 push_cast [and_true]
 have D1:=hD.next s1 d1
 have N1:=hN.ku hD s1
 refine d4 (fun σ' H2=>∃many drawn:Nat,σ'=[some (.ref d),some (.ref nl),some (.int c),some (.int (many:Int)),some (.int (drawn:Int)),none,none,none,none,none,none,none,none,none,none]∧H1=H2∧1≤many∧many≤8∧3≤drawn∧drawn≤36) ?_ ?_
 ·push_cast [and_true]
  refine ⟨rfl,b8 (fun e=>⟨(1+c / 448 % 8).toNat,by omega,36,by rfl,by omega,by omega,by decide,by decide⟩) fun e=>⟨(1+c % 3).toNat,by omega,(3+c / 7 % 8).toNat,by omega,by omega,by omega,by omega,by omega⟩⟩
 rintro _ _ ⟨many,drawn,rfl,rfl,m1,m2,r1,r2⟩
 push_cast [and_true]
 have ct:i8 (zs.map V.str) none (some (many:Int))=(zs.take many).map V.str:=by rw [uz _ many (by rw [List.length_map,hN.2.1];omega),List.map_take]
 refine ⟨zs.map V.str,SqL.of N1.1,fun p1 hp1=>?_⟩
 rw [ct]
 refine ⟨_,.inl ⟨SqL.of ae,fun kt hkt=>?_⟩⟩
 obtain ⟨kinds,hkd⟩:∃kinds,kinds=zs.take many:=⟨_,rfl⟩
 rw [←hkd]
 have kl:kinds.length=many:=by rw [hkd,List.length_take,hN.2.1];omega
 have hk:Kinds kinds:=fun z hz=>hN.2.2.2 z (List.mem_of_mem_take (by rw [←hkd];exact hz))
 have q2:=(aa hp1 (.lst (kinds.map V.str))).trans (aa (by rw [←hkd] at hkt;exact hkt) (.tup (kinds.map V.str)))
 rw [←hkd] at hkt
 have S2:au d H (upd (upd H1 p1 (.lst (kinds.map V.str))) kt (.tup (kinds.map V.str))):=s1.trans (au.of q2)
 have d2:=q2 _ _ d1
 have k2:upd (upd H1 p1 (.lst (kinds.map V.str))) kt (.tup (kinds.map V.str)) kt=some (.tup (kinds.map V.str)):=ae
 have N2:=N1.same q2
 generalize upd (upd H1 p1 (.lst (kinds.map V.str))) kt (.tup (kinds.map V.str))=H2 at S2 d2 k2 N2 q2 ⊢
 obtain ⟨z0,hz0,hk0⟩:∃z,atI (kinds.map V.str) 0=some (.str z)∧z∈kinds:=by
  cases kinds with
  | nil=>simp at kl;omega
  | cons z r=>exact ⟨z,ax (j:=0) rfl,List.mem_cons_self⟩
 refine br k2 hz0 ?_
 refine d4 (fun σ' I9=>∃sl b1 b2 b3 b4:Addr,σ'=[some (.ref d),some (.ref nl),some (.int c),some (.int (many:Int)),some (.int (drawn:Int)),some (.ref kt),some (.str z0),some (.ref sl),none,none,none,none,none,none,none]∧ao H2 I9∧I9 sl=some (.lst [V.ref b1,V.ref b2,V.ref b3,V.ref b4])∧∀k':Nat,k' < 4→∃(a s:Addr) (sh:List V),atI [V.ref b1,V.ref b2,V.ref b3,V.ref b4] (k':Int)=some (.ref a)∧I9 a=some (.tup [.str z0,.ref s])∧I9 s=some (.tup sh)∧jn kinds sh) ?_ fun σ' I9 hh=>?_
 ·push_cast [and_true]
  refine ⟨by show (1:Nat)≤sizeLine;decide,fun a1 ha1=>?_⟩
  have sa1:=aa ha1 (.tup [V.str (Str.ofString "any")])
  have ea1:upd H2 a1 (.tup [V.str (Str.ofString "any")]) a1=some (.tup [V.str (Str.ofString "any")]):=ae
  generalize upd H2 a1 (.tup [V.str (Str.ofString "any")])=I1 at sa1 ea1 ⊢
  refine ⟨by show (2:Nat)≤sizeLine;decide,fun b1 hb1=>?_⟩
  have sb1:=aa hb1 (.tup [V.str z0,V.ref a1])
  have eb1:upd I1 b1 (.tup [V.str z0,V.ref a1]) b1=some (.tup [V.str z0,V.ref a1]):=ae
  generalize upd I1 b1 (.tup [V.str z0,V.ref a1])=I2 at sb1 eb1 ⊢
  refine ⟨by show (1:Nat)≤sizeLine;decide,fun a2 ha2=>?_⟩
  have sa2:=aa ha2 (.tup [V.str (Str.ofString "var")])
  have ea2:upd I2 a2 (.tup [V.str (Str.ofString "var")]) a2=some (.tup [V.str (Str.ofString "var")]):=ae
  generalize upd I2 a2 (.tup [V.str (Str.ofString "var")])=I3 at sa2 ea2 ⊢
  refine ⟨by show (2:Nat)≤sizeLine;decide,fun b2 hb2=>?_⟩
  have sb2:=aa hb2 (.tup [V.str z0,V.ref a2])
  have eb2:upd I3 b2 (.tup [V.str z0,V.ref a2]) b2=some (.tup [V.str z0,V.ref a2]):=ae
  generalize upd I3 b2 (.tup [V.str z0,V.ref a2])=I4 at sb2 eb2 ⊢
  refine ⟨by show (3:Nat)≤sizeLine;decide,fun a3 ha3=>?_⟩
  have sa3:=aa ha3 (.tup [V.str (Str.ofString "add"),V.str z0,V.str z0])
  have ea3:upd I4 a3 (.tup [V.str (Str.ofString "add"),V.str z0,V.str z0]) a3=some (.tup [V.str (Str.ofString "add"),V.str z0,V.str z0]):=ae
  generalize upd I4 a3 (.tup [V.str (Str.ofString "add"),V.str z0,V.str z0])=I5 at sa3 ea3 ⊢
  refine ⟨by show (2:Nat)≤sizeLine;decide,fun b3 hb3=>?_⟩
  have sb3:=aa hb3 (.tup [V.str z0,V.ref a3])
  have eb3:upd I5 b3 (.tup [V.str z0,V.ref a3]) b3=some (.tup [V.str z0,V.ref a3]):=ae
  generalize upd I5 b3 (.tup [V.str z0,V.ref a3])=I6 at sb3 eb3 ⊢
  refine ⟨by show (2:Nat)≤sizeLine;decide,fun a4 ha4=>?_⟩
  have sa4:=aa ha4 (.tup [V.str (Str.ofString "neg"),V.str z0])
  have ea4:upd I6 a4 (.tup [V.str (Str.ofString "neg"),V.str z0]) a4=some (.tup [V.str (Str.ofString "neg"),V.str z0]):=ae
  generalize upd I6 a4 (.tup [V.str (Str.ofString "neg"),V.str z0])=I7 at sa4 ea4 ⊢
  refine ⟨by show (2:Nat)≤sizeLine;decide,fun b4 hb4=>?_⟩
  have sb4:=aa hb4 (.tup [V.str z0,V.ref a4])
  have eb4:upd I7 b4 (.tup [V.str z0,V.ref a4]) b4=some (.tup [V.str z0,V.ref a4]):=ae
  generalize upd I7 b4 (.tup [V.str z0,V.ref a4])=I8 at sb4 eb4 ⊢
  refine ⟨by show (4:Nat)≤sizeLine;decide,fun sl hsl=>?_⟩
  have ssl:=aa hsl (.lst [V.ref b1,V.ref b2,V.ref b3,V.ref b4])
  have esl:upd I8 sl (.lst [V.ref b1,V.ref b2,V.ref b3,V.ref b4]) sl=some (.lst [V.ref b1,V.ref b2,V.ref b3,V.ref b4]):=ae
  generalize upd I8 sl (.lst [V.ref b1,V.ref b2,V.ref b3,V.ref b4])=I9 at ssl esl ⊢
  have u8:=sb4.trans ssl
  have u7:=sa4.trans u8
  have u6:=sb3.trans u7
  have u5:=sa3.trans u6
  have u4:=sb2.trans u5
  have u3:=sa2.trans u4
  have u2:=sb1.trans u3
  have u1:=sa1.trans u2
  have sh4:∀k':Nat,k' < 4→∃(a s:Addr) (sh:List V),atI [V.ref b1,V.ref b2,V.ref b3,V.ref b4] (k':Int)=some (.ref a)∧I9 a=some (.tup [.str z0,.ref s])∧I9 s=some (.tup sh)∧jn kinds sh:=fun k' hk'=>by
   rcases k' with _ | _ | _ | _ | k'
   ·exact ⟨b1,a1,_,ax rfl,u3 _ _ eb1,u2 _ _ ea1,Im kinds⟩
   ·exact ⟨b2,a2,_,ax rfl,u5 _ _ eb2,u4 _ _ ea2,Lq kinds⟩
   ·exact ⟨b3,a3,_,ax rfl,u7 _ _ eb3,u6 _ _ ea3,Hu hk hk0⟩
   ·exact ⟨b4,a4,_,ax rfl,ssl _ _ eb4,u8 _ _ ea4,Iy hk hk0⟩
   ·omega
  exact ⟨u1,b1,b2,b3,b4,esl,fun k' hk'=>by obtain ⟨a,s,sh,h1,h2,h3,h4⟩:=sh4 k' hk';exact ⟨a,h1,s,h2,sh,h3,h4⟩⟩
 refine ob5 (hh) fun sl b1 b2 b3 b4 hh=>?_
 have u1:=hh.2.1
 have esl:=hh.2.2.1
 have sh4:=hh.2.2.2
 obtain rfl:=hh.1
 clear hh
 have S9:au d H I9:=S2.trans (au.of u1)
 have d9:=u1 _ _ d2
 have k9:=u1 _ _ k2
 have N9:=N2.same u1
 clear u1 q2 hkt N2 d2 k2 S2
 push_cast [and_true]
 intro D hD'
 refine t5 (n:=4) (fun j ys=>∃(sa:List Addr) (ps:List (Str×List V)),ys=sa.map V.ref∧fb I9 sa kinds ps∧ps.length≤j) (by omega) hD' ⟨[],[],rfl,fb.nil _ _,Nat.le_refl _⟩ (fun j ys H3 G' K' hj hP hl2 hS' hG hK'=>?_) fun ys H3 hP hl2 hS' hD2=>?_
 ·obtain ⟨sa,ps,rfl,hsh,hpl⟩:=hP
  obtain ⟨a,s,sh,g1,g2,g3,g4⟩:=sh4 j hj
  obtain ⟨y,hy,hym⟩:=cy [V.int 1,V.int 3,V.int 9,V.int 27] (0+(j:Int)) (by omega) (by show 0+(j:Int) < 4;omega)
  obtain ⟨y',rfl,hy0,hy1⟩:∃y':Int,y=.int y'∧0 < y'∧y' < 1073741824:=by
   simp only [List.mem_cons,List.not_mem_nil,or_false] at hym
   rcases hym with rfl | rfl | rfl | rfl <;> exact ⟨_,rfl,by decide,by decide⟩
  push_cast [ox]
  refine ⟨by show (4:Nat)≤sizeLine;decide,fun p4 hp4=>aq ae hy ⟨hy0,hy1,rfl,b8 (fun e=>?_) fun e=>hG _ (aa hp4 _) ⟨sa,ps,rfl,hsh,by omega⟩⟩⟩
  refine aq (aa hp4 _ _ _ (hS' _ _ esl)) (by rw [show (0+(j:Int))=((j:Nat):Int) by omega];exact g1) (hK' _ _ (aa hp4 _) ⟨sa++[a],ps++[(z0,sh)],by rw [List.map_append];rfl,hsh.snoc ⟨g4,hk0⟩ g2 g3,by rw [List.length_append,List.length_singleton];omega⟩)
 ·obtain ⟨sa,ps,rfl,hsh,hpl⟩:=hP
  have S10:=S9.trans (au.of hS')
  have d10:=hS' _ _ d9
  have k10:=hS' _ _ k9
  have N10:=N9.same hS'
  have hsh10:=hsh.same hS'
  have fD:=S9.free d9 hD'
  have nDd:D≠d:=(ag d9 hD').symm
  have nt:∀{a:Addr} {xs:List V} {H':Hp} {n':Nat},H' d=some (.lst [.ref b,.int (n':Int)])→H' a=some (.tup xs)→a≠d:=fun h1 h2=>ee h2 h1 (by intro e;cases e)
  refine ⟨by omega,by omega,?_⟩
  rw [show ((drawn:Nat):Int).toNat=drawn by omega]
  obtain ⟨P1,eP1⟩:∃P1:Nat→L2.St→Hp→Prop,∀j σ H',P1 j σ H'↔∃(sa:List Addr) (ps:List (Str×List V)) (n':Nat) (v8 v9 v10:Option V),σ=[some (.ref d),some (.ref nl),some (.int c),some (.int (many:Int)),some (.int (drawn:Int)),some (.ref kt),some (.str z0),some (.ref D),v8,v9,v10,none,none,none,none]∧au d H H'∧H' d=some (.lst [.ref b,.int (n':Int)])∧n'≤n+1+13*j∧H' D=some (.lst (sa.map V.ref))∧H' kt=some (.tup (kinds.map V.str))∧cw H' nl zs∧fb H' sa kinds ps∧ps.length≤4+j∧j≤ps.length:=⟨_,fun _ _ _=>Iff.rfl⟩
  refine fj (lo:=0) P1 ((eP1 _ _ _).mpr ⟨sa,ps,n+1,none,none,none,rfl,S10,d10,by omega,hD2,k10,N10,hsh10,by omega,Nat.zero_le _⟩) ?_ ?_
  ·intro j σ H5 hj hh
   refine ob6 ((eP1 _ _ _).mp hh) fun sa ps n' v8 v9 v10 hh=>?_
   have s5:=hh.2.1
   have d5:=hh.2.2.1
   have hn5:=hh.2.2.2.1
   have D5:=hh.2.2.2.2.1
   have k5:=hh.2.2.2.2.2.1
   have N5:=hh.2.2.2.2.2.2.1
   have sh5:=hh.2.2.2.2.2.2.2.1
   have pl5:=hh.2.2.2.2.2.2.2.2.1
   have pj5:=hh.2.2.2.2.2.2.2.2.2
   obtain rfl:=hh.1
   clear hh
   push_cast [and_true]
   refine ly (hD.next s5 d5) (by omega) fun one H6 s6 d6=>?_
   have S6:=s5.trans s6
   have D6:=s6 D _ nDd D5
   have k6:=s6 kt _ (nt d5 k5) k5
   have N6:=N5.ku (hD.next s5 d5) s6
   have sh6:=sh5.ku (hD.next s5 d5) s6
   refine Nj (hD.next S6 d6) k6 hk (by omega) (by omega) (by omega) fun t n2 H7 sh s7 d7 hn7 ht h7 ok7=>?_
   push_cast [and_true]
   have Dk6:=hD.next S6 d6
   have S7:=S6.trans s7
   have D7:=s7 D _ nDd D6
   have k7:=s7 kt _ (nt d6 k6) k6
   have N7:=N6.ku Dk6 s7
   have sh7:=sh6.ku Dk6 s7
   have kat:∀i:Int,∃z,atI (kinds.map V.str) (i % (((kinds.map V.str).length:Nat):Int))=some (.str z)∧z∈kinds:=fun i=>by
    obtain ⟨y,hy,hym⟩:=cy (kinds.map V.str) (i % (((kinds.map V.str).length:Nat):Int)) (Int.emod_nonneg _ (by rw [List.length_map];omega)) (Int.emod_lt_of_pos _ (by rw [List.length_map];omega))
    obtain ⟨z,hz,rfl⟩:=List.mem_map.mp hym
    exact ⟨z,hy,hz⟩
   refine d4 (fun σ' H8=>∃(t':Addr) (sh':List V),σ'=[some (.ref d),some (.ref nl),some (.int c),some (.int (many:Int)),some (.int (drawn:Int)),some (.ref kt),some (.str z0),some (.ref D),some (.int (0+(j:Int))),some (.int one),some (.ref t'),none,none,none,none]∧ao H7 H8∧H8 t'=some (.tup sh')∧jn kinds sh') ?_ ?_
   ·push_cast [ox]
    refine ⟨rfl,b8 (fun e=>⟨_,.inr (SqT.of k7),by rw [List.length_map];omega,?_⟩) fun e=>⟨ao.refl _,_,h7,ok7⟩⟩
    obtain ⟨z,hz,hzk⟩:=kat (one / 5)
    exact br k7 hz ⟨by show (1:Nat)≤sizeLine;decide,fun t' ht'=>⟨aa ht' _,_,ae,G6 hk hzk⟩⟩
   rintro _ H8 ⟨t',sh',rfl,s8,h8,ok8⟩
   push_cast [ox]
   obtain ⟨z,hz,hzk⟩:=kat (one / 15)
   refine ⟨av (s8 _ _ D7),_,.inr (SqT.of (s8 _ _ k7)),by rw [List.length_map];omega,br (s8 _ _ k7) hz ⟨by show (2:Nat)≤sizeLine;decide,fun pr hpr=>?_⟩⟩
   have s9:=s8.trans (aa hpr (.tup [V.str z,V.ref t']))
   have S9':=S7.trans (au.of s9)
   have e9:upd H8 pr (.tup [V.str z,V.ref t']) pr=some (.tup [V.str z,V.ref t']):=ae
   have h9:=aa hpr (.tup [V.str z,V.ref t']) _ _ h8
   generalize upd H8 pr (.tup [V.str z,V.ref t'])=H9 at s9 S9' e9 h9 ⊢
   have sal:sa.length=ps.length:=sh5.1
   have uD:ao H9 (upd H9 D (.lst (sa.map V.ref++[V.ref pr])))∨True:=.inr trivial
   have tD:∀{a:Addr} {xs:List V},H9 a=some (.tup xs)→upd H9 D (.lst (sa.map V.ref++[V.ref pr])) a=some (.tup xs):=fun h=>by rw [af (ee h (s9 _ _ D7) (by intro e;cases e))];exact h
   have sh9:=(sh7.same s9).snoc ⟨ok8,hzk⟩ e9 h9
   refine (bj (K:=K) (s9 _ _ D7) (by rw [List.length_map];omega) ((eP1 _ _ _).mpr ⟨sa++[pr],ps++[(z,sh')],n2,_,_,_,rfl,S9'.upd fD _,by rw [af nDd.symm];exact s9 _ _ d7,by omega,by rw [ae,List.map_append];rfl,tD (s9 _ _ k7),⟨?_,N7.2⟩,⟨sh9.1,fun i k' s' hi=>?_⟩,by rw [List.length_append,List.length_singleton];omega,by rw [List.length_append,List.length_singleton];omega⟩)).2
   ·rw [af (ag hN.1 fD)]
    exact s9 _ _ N7.1
   ·obtain ⟨o1,a,t,x1,x2,x3⟩:=sh9.2 i k' s' hi
    exact ⟨o1,a,t,x1,tD x2,tD x3⟩
  ·intro σ H5 hh
   refine ob6 ((eP1 _ _ _).mp hh) fun sa ps n' v8 v9 v10 hh=>?_
   have s5:=hh.2.1
   have d5:=hh.2.2.1
   have hn5:=hh.2.2.2.1
   have D5:=hh.2.2.2.2.1
   have k5:=hh.2.2.2.2.2.1
   have N5:=hh.2.2.2.2.2.2.1
   have sh5:=hh.2.2.2.2.2.2.2.1
   have pl5:=hh.2.2.2.2.2.2.2.2.1
   have pj5:=hh.2.2.2.2.2.2.2.2.2
   obtain rfl:=hh.1
   clear hh
   push_cast [and_true]
   refine ⟨Nat.zero_le _,fun rl hrl=>⟨⟨_,SqL.of (aa hrl _ _ _ D5)⟩,?_⟩⟩
   have frl:=s5.free d5 hrl
   have nrd:rl≠d:=(ag d5 hrl).symm
   have S6:=s5.trans (au.of (aa hrl (.lst [])))
   have d6:=aa hrl (.lst []) _ _ d5
   have D6:=aa hrl (.lst []) _ _ D5
   have k6:=aa hrl (.lst []) _ _ k5
   have N6:=N5.same (aa hrl (.lst []))
   have sh6:=sh5.same (aa hrl (.lst []))
   have r6:upd H5 rl (.lst []) rl=some (.lst []):=ae
   have nrD:rl≠D:=(ag D5 hrl).symm
   generalize upd H5 rl (.lst [])=H6 at S6 d6 D6 k6 N6 sh6 r6 ⊢
   have sal:sa.length=ps.length:=sh5.1
   obtain ⟨P2,eP2⟩:∃P2:Nat→L2.St→Hp→Prop,∀i σ H',P2 i σ H'↔∃(ra:List Addr) (rs:List Rl) (m:Nat) (w8 w9 w10 w12 w13:Option V),σ=[some (.ref d),some (.ref nl),some (.int c),some (.int (many:Int)),some (.int (drawn:Int)),some (.ref kt),some (.str z0),some (.ref D),w8,w9,w10,some (.ref rl),w12,w13,none]∧au d H H'∧H' d=some (.lst [.ref b,.int (m:Int)])∧m≤n'+i∧H' D=some (.lst (sa.map V.ref))∧H' kt=some (.tup (kinds.map V.str))∧cw H' nl zs∧fb H' sa kinds ps∧H' rl=some (.lst (ra.map V.ref))∧dc H' ra rs∧rs.length=i∧rs.map (·.name)=(zs.drop 8).take i∧∀r∈rs,jn kinds r.shape∧1≤r.price∧r.kind∈kinds:=⟨_,fun _ _ _=>Iff.rfl⟩
   refine fc (xs:=sa.map V.ref) P2 ((eP2 _ _ _).mpr ⟨[],[],n',v8,v9,v10,none,none,rfl,S6,d6,by omega,D6,k6,N6,sh6,r6,⟨rfl,fun i r h=>by simp at h⟩,rfl,rfl,fun _ h=>nomatch h⟩) (fun i σ H' _ h=>by obtain ⟨_,_,_,_,_,_,_,_,_,_,_,_,hd,_⟩:=(eP2 _ _ _).mp h;exact SqL.of hd) ?_ ?_
   ·intro i y σ H7 hy hh
    refine ob8 ((eP2 _ _ _).mp hh) fun ra rs m w8 w9 w10 w12 w13 hh=>?_
    have s7:=hh.2.1
    have d7:=hh.2.2.1
    have hm7:=hh.2.2.2.1
    have D7:=hh.2.2.2.2.1
    have k7:=hh.2.2.2.2.2.1
    have N7:=hh.2.2.2.2.2.2.1
    have sh7:=hh.2.2.2.2.2.2.2.1
    have r7:=hh.2.2.2.2.2.2.2.2.1
    have R7:=hh.2.2.2.2.2.2.2.2.2.1
    have rl7:=hh.2.2.2.2.2.2.2.2.2.2.1
    have nm7:=hh.2.2.2.2.2.2.2.2.2.2.2.1
    have so7:=hh.2.2.2.2.2.2.2.2.2.2.2.2
    obtain rfl:=hh.1
    clear hh
    rw [List.getElem?_map] at hy
    obtain ⟨ai,hai,rfl⟩:=Option.map_eq_some_iff.mp hy
    have hil:i < ps.length:=by rw [←sal];exact (List.getElem?_eq_some_iff.mp hai).1
    obtain ⟨⟨ki,shi⟩,hpi⟩:∃t,ps[i]?=some t:=⟨_,List.getElem?_eq_getElem hil⟩
    obtain ⟨oki,a',si,x1,x2,x3⟩:=sh7.2 i ki shi hpi
    obtain rfl:a'=ai:=Option.some.inj (x1.symm.trans hai)
    have hD7:=hD.next s7 d7
    refine Jb x2 rfl ?_
    push_cast [and_true]
    refine ly hD7 (by omega) fun one H8 s8 d8=>?_
    push_cast [ox]
    refine ⟨by show (3:Nat)≤sizeLine;decide,fun p hp=>?_⟩
    obtain ⟨y,hy,hym⟩:=cy [V.int (1+one / 3 % 4),V.int (1+one / 3 % 30),V.int (1+one / 3 % 999999)] (one % 3) (Int.emod_nonneg _ (by decide)) (Int.emod_lt_of_pos _ (by decide))
    obtain ⟨y',rfl,hy1⟩:∃y':Int,y=.int y'∧1≤y':=by
     simp only [List.mem_cons,List.not_mem_nil,or_false] at hym
     rcases hym with rfl | rfl | rfl <;> exact ⟨_,rfl,by omega⟩
    refine aq ae hy ?_
    have S8:=s7.trans (s8.trans (au.of (aa hp (.lst [V.int (1+one / 3 % 4),V.int (1+one / 3 % 30),V.int (1+one / 3 % 999999)]))))
    have s8':=s8.trans (au.of (d:=d) (aa hp (.lst [V.int (1+one / 3 % 4),V.int (1+one / 3 % 30),V.int (1+one / 3 % 999999)])))
    have d8':=aa hp (.lst [V.int (1+one / 3 % 4),V.int (1+one / 3 % 30),V.int (1+one / 3 % 999999)]) _ _ d8
    generalize upd H8 p (.lst [V.int (1+one / 3 % 4),V.int (1+one / 3 % 30),V.int (1+one / 3 % 999999)])=H9 at S8 s8' d8' ⊢
    have r9:=s8' rl _ nrd r7
    have D9:=s8' D _ nDd D7
    have k9':=j8 hD7 s8' k7
    have N9':=N7.ku hD7 s8'
    have sh9:=sh7.ku hD7 s8'
    have R9:=R7.keep (j8 hD7 s8')
    have x39:=j8 hD7 s8' x3
    have ral:ra.length=i:=by rw [R7.1,rl7]
    have hzl:=hN.2.1
    have hz8:zs[8+i]?=some zs[8+i]:=List.getElem?_eq_getElem (by omega)
    refine ⟨av r9,_,.inl (SqL.of r9),aq (v:=.str zs[8+i]) N9'.1 ?_ (Nq k9' x39 hk oki.1 fun t ds H10 s10 h10=>⟨by show (5:Nat)≤sizeLine;decide,fun pr hpr=>?_⟩)⟩
    ·rw [List.length_map,ral,show (8:Int)+(i:Int)=((8+i:Nat):Int) by omega]
     exact ax (by rw [List.getElem?_map,hz8];rfl)
    have e11:upd H10 pr (.tup [V.str zs[8+i],V.str ki,V.int y',V.ref si,V.ref t]) pr=some (.tup [V.str zs[8+i],V.str ki,V.int y',V.ref si,V.ref t]):=ae
    have q11:=aa hpr (.tup [V.str zs[8+i],V.str ki,V.int y',V.ref si,V.ref t])
    have s11:=s10.trans q11
    have h11:=q11 _ _ h10
    clear q11
    generalize upd H10 pr (.tup [V.str zs[8+i],V.str ki,V.int y',V.ref si,V.ref t])=H11 at e11 s11 h11 ⊢
    have S11:=S8.trans (au.of s11)
    have r11:=s11 _ _ r9
    have R11:=(R9.same s11).snoc (r:=⟨zs[8+i],ki,y',shi⟩) ⟨si,t,ds,e11,s11 _ _ x39,h11⟩
    have tD:∀{a:Addr} {xs:List V},H11 a=some (.tup xs)→upd H11 rl (.lst (ra.map V.ref++[V.ref pr])) a=some (.tup xs):=fun h=>by rw [af (ee h r11 (by intro e;cases e))];exact h
    refine (bj (K:=K) r11 (by rw [List.length_map];omega) ((eP2 _ _ _).mpr ⟨ra++[pr],rs++[⟨zs[8+i],ki,y',shi⟩],m+1,_,_,_,_,_,rfl,S11.upd frl _,by rw [af nrd.symm];exact s11 _ _ d8',by omega,by rw [af nrD.symm];exact s11 _ _ D9,tD (s11 _ _ k9'),⟨?_,hN.2⟩,(sh9.same s11).keep tD,by rw [ae,List.map_append];rfl,R11.keep tD,by rw [List.length_append,List.length_singleton,rl7],Ci nm7 hz8,fun r' hr'=>?_⟩)).2
    ·rw [af (ag hN.1 frl)]
     exact s11 _ _ N9'.1
    ·rcases List.mem_append.mp hr' with g | g
     ·exact so7 r' g
     ·rw [List.mem_singleton.mp g];exact ⟨oki.1,hy1,oki.2⟩
   ·intro σ H7 hh
    refine ob8 ((eP2 _ _ _).mp hh) fun ra rs m w8 w9 w10 w12 w13 hh=>?_
    have s7:=hh.2.1
    have d7:=hh.2.2.1
    have hm7:=hh.2.2.2.1
    have D7:=hh.2.2.2.2.1
    have k7:=hh.2.2.2.2.2.1
    have N7:=hh.2.2.2.2.2.2.1
    have sh7:=hh.2.2.2.2.2.2.2.1
    have r7:=hh.2.2.2.2.2.2.2.2.1
    have R7:=hh.2.2.2.2.2.2.2.2.2.1
    have rl7:=hh.2.2.2.2.2.2.2.2.2.2.1
    have nm7:=hh.2.2.2.2.2.2.2.2.2.2.2.1
    have so7:=hh.2.2.2.2.2.2.2.2.2.2.2.2
    obtain rfl:=hh.1
    clear hh
    push_cast [and_true]
    have ral:ra.length=rs.length:=R7.1
    rw [List.length_map] at hm7 rl7 nm7
    rw [←rl7] at nm7
    have rsl:rs.length=ps.length:=by rw [rl7,sal]
    obtain ⟨at',hat,hlt⟩:∃a:Nat,c / 11 % (((ra.map V.ref).length:Nat):Int)=(a:Int)∧a < ra.length:=⟨(c / 11 % (((ra.map V.ref).length:Nat):Int)).toNat,by
     rw [List.length_map]
     have h1:=Int.emod_nonneg (c / 11) (show ((ra.length:Nat):Int)≠0 by omega)
     omega,by
     rw [List.length_map]
     have h1:=Int.emod_nonneg (c / 11) (show ((ra.length:Nat):Int)≠0 by omega)
     have h2:=Int.emod_lt_of_pos (c / 11) (show (0:Int) < ((ra.length:Nat):Int) by omega)
     omega⟩
    refine ⟨_,.inl (SqL.of r7),by rw [List.length_map];omega,_,SqL.of r7,fun p hp=>?_⟩
    rw [hat]
    have c1:i8 (ra.map V.ref) (some (at':Int)) none=(ra.drop at').map V.ref:=by
     have:=Jw (ra.map V.ref) at' 0 (by rw [List.length_map];omega)
     rw [show ((at':Int)+((0:Nat):Int))=(at':Int) by omega,Nat.add_zero] at this
     rw [this,List.map_drop]
    have c2:i8 (ra.map V.ref) none (some (at':Int))=(ra.take at').map V.ref:=by rw [uz _ _ (by rw [List.length_map];omega),List.map_take]
    rw [c1] at*
    refine ⟨_,SqL.of (aa hp _ _ _ r7),fun p2 hp2=>?_⟩
    rw [c2]
    refine Nm (aa hp2 _ _ _ ae) ae (by rw [List.length_map,List.length_map,List.length_drop,List.length_take];omega) fun p3 hp3=>⟨_,.inl ⟨SqL.of ae,fun t ht=>⟨by show (2:Nat)≤sizeLine;decide,fun bt hbt=>?_⟩⟩⟩
    have s8:=(aa hp (.lst ((ra.drop at').map V.ref))).trans ((aa hp2 (.lst ((ra.take at').map V.ref))).trans ((aa hp3 (.lst ((ra.drop at').map V.ref++(ra.take at').map V.ref))).trans ((aa ht (.tup ((ra.drop at').map V.ref++(ra.take at').map V.ref))).trans (aa hbt (.tup [V.ref kt,V.ref t])))))
    refine q bt m _ kinds (rs.drop at'++rs.take at') (s7.trans (au.of s8)) (s8 _ _ d7) (by omega) ⟨kt,t,ra.drop at'++ra.take at',ae,s8 _ _ k7,?_,(R7.rot at').same s8⟩ (bk_rot hk (by rw [hkd];exact hN.2.2.1.sublist (List.take_sublist _ _)) (by omega) hN.2.2.1 nm7 so7 (by omega) at') (by rw [List.length_append,List.length_drop,List.length_take];omega)
    rw [List.map_append]
    exact aa hbt _ _ _ ae
noncomputable abbrev mx:Stmt:=top 20
theorem Fn:az ["deck","own","letters","cell","more","tail","names","k","sign","name"] ["deck"] (ah mx):=⟨rfl,rfl,rfl,by decide+kernel,rfl,by decide+kernel,by decide+kernel⟩
theorem Jv (G:Gs w K mg) (h_law_next:Has P w K mg base k "_law_next" ["deck"] iz) (D:Def K mg "_law_names" mx ["deck"]):Has P w K mg base (k+1) "_law_names" ["deck"] ni:=by
 refine D.has Fn (fun vs H Q E h=>?_) (fun f cdv A outer s H vs Q E hr h=>?_)
 ·obtain ⟨_,_,_,_,rfl,_,_,_⟩:=h
  rfl
 have nd:=Fn.nd
 have hu:=b7 hr
 have hu0:=Nat.lt_of_succ_lt hu
 obtain ⟨d,b,ns,n,rfl,hD,hn,q⟩:=h
 have m_range:=G.m_range
 refine ⟨_,(A4 (A7 1 nd (AH (BF (AI (AI (AI (AI (AI (AI (AI (AI (AI (BG 0))))))))))))) (A4 (A7 2 nd (AM 0)) (A4 (A7 3 nd (AG h_law_next hr (A1 (A0 0) (A2 0)))) (A4 (A7 4 nd (A5 (AU 0) (A0 3) (A3 0))) (A4 (A7 5 nd (A5 (@lb _) (A9 (@jt _) (A0 2) (A5 (AF 0) (A5 (AU 0) (A0 4) (A3 0)) (A3 0))) (A5 (AF 0) (A5 (AU 0) (A0 4) (A3 0)) (A3 0)))) (A4 (A7 6 nd (AH (A2 0))) (A4 (B0 (BS m_range (A1 (A3 0) (A2 0))) (AR 7 nd (by first | exact Or.inl rfl | exact Or.inr rfl)) (A4 (A7 8 nd (A9 (@jt _) (A0 2) (A5 (AF 0) (A5 (AO 0) (A0 4) (A0 7)) (A3 0)))) (A4 (A7 9 nd (A5 (BT 0) (A5 (BT 0) (A0 8) (A9 (@jt _) (A0 2) (A5 (AF 0) (A5 (AO 0) (A5 (AU 0) (A0 4) (A3 0)) (A5 (AU 0) (A0 7) (A3 0))) (A3 0)))) (A0 5))) (BM (AD (AE (AJ 0) (A5 (AF 0) (A0 3) (A3 0)) (A3 0) (AB 0)) (A6 (A7 9 nd (A5 (BT 0) (A9 (AY 0) (A0 1) (A5 (AF 0) (A5 (AO 0) (A0 7) (A0 4)) (A3 0))) (A9 (@jt _) (A0 2) (A5 (AF 0) (A5 (AO 0) (A5 (AU 0) (A0 4) (A3 0)) (A5 (AU 0) (A0 7) (A3 0))) (A3 0)))))) (AN 0)) (BM (AD (AE (AJ 0) (A5 (AF 0) (A0 3) (A3 0)) (A3 0) (AB 0)) (A4 (A7 9 nd (A5 (@lb _) (A9 (@jt _) (A0 2) (A5 (AF 0) (A0 4) (A3 0))) (A5 (AO 0) (A3 0) (A5 (AF 0) (A0 7) (A3 0))))) (A4 (A7 9 nd (A5 (BT 0) (A0 9) (A5 (@lb _) (A9 (@jt _) (A0 2) (A5 (AF 0) (A5 (AO 0) (A0 4) (A3 0)) (A3 0))) (A5 (AF 0) (A5 (AU 0) (A0 7) (A3 0)) (A3 0))))) (A6 (A7 9 nd (A5 (BT 0) (A0 9) (A9 (@jt _) (A0 2) (A5 (AF 0) (A5 (AO 0) (A5 (AO 0) (A0 4) (A3 0)) (A5 (AU 0) (A0 7) (A3 0))) (A3 0)))))))) (AN 0)) (BM (AD (BP (BU 0) (A0 9) (A0 1)) (A6 (A7 9 nd (A5 (BT 0) (A0 9) (AM 0)))) (AN 0)) (A6 (AQ (AS PySem.F.plainAttrs_list PySem.F.slot_list_append PySem.F.type_list_append (AX 0) (A0 6) (A1 (A0 9) (A2 0))))))))))) (A6 (AC (A0 6)))))))))),?_⟩
 rw [show start ["deck","own","letters","cell","more","tail","names","k","sign","name"] [.ref d]=[some (.ref d),none,none,none,none,none,none,none,none,none] from rfl]
 clear hu hu0 nd hr
 push_cast [and_true]
 have sz:=sizeLine_eq
 refine ⟨by show (9:Nat)≤sizeLine;decide,fun p hp=>ly (hD.same (aa hp _)) (by omega) fun c H1 s1 d1=>?_⟩
 push_cast [ox]
 refine gh ⟨_,rfl,by omega,by omega,by show (1:Nat)≤1000;decide,Nat.zero_le _,fun l hl=>?_⟩
 have npd:p≠d:=(ag hD.1 hp).symm
 have p1:H1 p=some (.lst (dm.map V.str)):=s1 p _ npd ae
 have S1:au d H H1:=(au.of (aa hp (.lst (dm.map V.str)))).trans s1
 have fl:=S1.free d1 hl
 have nld:l≠d:=(ag d1 hl).symm
 have nlp:l≠p:=(ag p1 hl).symm
 obtain ⟨P1,eP1⟩:∃P1:Nat→L2.St→Hp→Prop,∀j σ H',P1 j σ H'↔∃v7 v8 v9:Option V,σ=[some (.ref d),some (.ref p),some (.str Bs),some (.int c),some (.int (c / 3)),some (.str (qa (c / 3))),some (.ref l),v7,v8,v9]∧au d H H'∧H' d=some (.lst [.ref b,.int ((n+1:Nat):Int)])∧H' p=some (.lst (dm.map V.str))∧H' l=some (.lst ((List.range j).map fun k=>V.str (nmP c k))):=⟨_,fun _ _ _=>Iff.rfl⟩
 refine fj (lo:=0) P1 ((eP1 _ _ _).mpr ⟨none,none,none,rfl,S1.upd fl _,aa hl _ _ _ d1,aa hl _ _ _ p1,ae⟩) ?_ ?_
 ·intro j σ H5 hj hh
  refine ob3 ((eP1 _ _ _).mp hh) fun v7 v8 v9 hh=>?_
  have s5:=hh.2.1
  have d5:=hh.2.2.1
  have p5:=hh.2.2.2.1
  have l5:=hh.2.2.2.2
  obtain rfl:=hh.1
  clear hh
  push_cast [and_true]
  simp only [Int.zero_add]
  refine gh (gh ⟨_,rfl,_,rfl,by rw [dj,dj];omega,by have:=Ej (c / 3) (c / 3) j;unfold nm0 at this;rw [Str.length_append] at this;omega,?_⟩)
  refine d4 (fun σ' H6=>σ'=[some (.ref d),some (.ref p),some (.str Bs),some (.int c),some (.int (c / 3)),some (.str (qa (c / 3))),some (.ref l),some (.int (j:Int)),some (.str (ltr (c / 3+(j:Int)))),some (.str (if c % 3=1 then nm1 (c / 3) j else nm0 (c / 3) (qa (c / 3)) j))]∧H5=H6) ?_ ?_
  ·push_cast [and_true]
   refine ⟨rfl,b8 (fun e=>?_) fun e=>?_⟩
   ·rw [if_pos e]
    have b1:(((j:Int)+c / 3) % 9).toNat < dm.length:=by show _ < 9;omega
    have g:=Eo (c / 3) j
    have g2:nm1 (c / 3) j=dm[(((j:Int)+c / 3) % 9).toNat]++ltr (c / 3 / 9+(j:Int) / 9):=by
     unfold nm1
     rw [List.getD_eq_getElem?_getD,List.getElem?_eq_getElem b1]
     rfl
    refine aq (v:=.str dm[(((j:Int)+c / 3) % 9).toNat]) p5 ?_ (gh ⟨_,rfl,_,rfl,?_,g2.symm,rfl⟩)
    ·have g3:((((j:Int)+c / 3) % 9).toNat:Int)=((j:Int)+c / 3) % 9:=by omega
     have g4:=ax (xs:=dm.map V.str) (j:=(((j:Int)+c / 3) % 9).toNat) (v:=.str dm[(((j:Int)+c / 3) % 9).toNat]) (by rw [List.getElem?_map,List.getElem?_eq_getElem b1];rfl)
     rw [g3] at g4
     exact g4
    ·rw [g2,Str.length_append] at g
     omega
   ·rw [if_neg e]
    rfl
  rintro _ _ ⟨rfl,rfl⟩
  refine d4 (fun σ' H6=>∃v8:Option V,σ'=[some (.ref d),some (.ref p),some (.str Bs),some (.int c),some (.int (c / 3)),some (.str (qa (c / 3))),some (.ref l),some (.int (j:Int)),v8,some (.str (nmX c j))]∧H5=H6) ?_ ?_
  ·push_cast [and_true]
   refine ⟨rfl,b8 (fun e=>?_) fun e=>?_⟩
   ·refine gh ⟨_,rfl,by omega,by omega,by rw [dj];omega,gh ⟨_,rfl,by omega,by omega,by rw [dj];omega,by rw [kf,kf];omega,gh ⟨_,rfl,by rw [Str.length_append,kf,kf,dj];omega,?_,rfl⟩⟩⟩
    unfold nmX
    rw [if_pos e]
    rfl
   ·unfold nmX
    rw [if_neg e]
  rintro _ _ ⟨v8',rfl,rfl⟩
  refine d4 (fun σ' H6=>∃v8:Option V,σ'=[some (.ref d),some (.ref p),some (.str Bs),some (.int c),some (.int (c / 3)),some (.str (qa (c / 3))),some (.ref l),some (.int (j:Int)),v8,some (.str (nmP c j))]∧H5=H6) ?_ ?_
  ·push_cast [rIn]
   have g:=Mc c j
   have hx:(Str.ofString "xq").length=2:=Cj
   refine ⟨_,.inl (SqL.of p5),rfl,List.all_eq_true.mpr fun x hx=>by obtain ⟨z,_,rfl⟩:=List.mem_map.mp hx;rfl,b8 (fun e=>⟨by omega,?_⟩) fun e=>?_⟩
   ·unfold nmP
    rw [if_pos ((Ju _).mp e)]
   ·unfold nmP
    rw [if_neg fun h=>e ((Ju _).mpr h)]
  rintro _ _ ⟨v8'',rfl,rfl⟩
  push_cast [and_true]
  refine bj l5 (by rw [List.length_map,List.length_range];omega) ((eP1 _ _ _).mpr ⟨_,_,_,rfl,s5.upd fl _,by rw [af nld.symm];exact d5,by rw [af nlp.symm];exact p5,?_⟩)
  rw [ae,List.range_succ,List.map_append]
  rfl
 ·intro σ H5 hh
  refine ob3 ((eP1 _ _ _).mp hh) fun v7 v8 v9 hh=>?_
  have s5:=hh.2.1
  have d5:=hh.2.2.1
  have p5:=hh.2.2.2.1
  have l5:=hh.2.2.2.2
  obtain rfl:=hh.1
  clear hh
  push_cast [and_true]
  exact q l H5 _ s5 d5 (Bt l5)
noncomputable abbrev ir:Stmt:=top 27
theorem zz:az ["kinds","shape"] ["kinds","shape"] (ah ir):=⟨rfl,rfl,rfl,by decide+kernel,rfl,by decide+kernel,by decide+kernel⟩
theorem G1 (G:Gs w K mg) (D:Def K mg "_law_holes" ir ["kinds","shape"]):Has P w K mg base (k+1) "_law_holes" ["kinds","shape"] (mz K):=by
 refine D.has zz (fun vs H Q E h=>?_) (fun f cdv A outer s H vs Q E hr h=>?_)
 ·obtain ⟨_,_,_,_,rfl,_,_,_,_,_⟩:=h
  rfl
 have nd:=zz.nd
 have hu:=b7 hr
 have hu0:=Nat.lt_of_succ_lt hu
 obtain ⟨kt,st,kinds,sh,rfl,hK,hS,hw,hl,q⟩:=h
 refine ⟨_,(A6 (AC (BR (BK ["word"] ["kinds"] [0] (And.intro rfl trivial) (And.intro (And.intro rfl (And.intro rfl rfl)) trivial)) (BW (A0 1)) (fun _ _ _=>(B9 0 (show List.Nodup (["word","kinds"]:List Str) by decide+kernel))) (fun _ _ _=>(@pif1 _ _ _ (BP (@la _ K rfl) (A0 0) (A8 1)))) (fun _ _ _=>(A0 0))))),?_⟩
 rw [show start ["kinds","shape"] [.ref kt,.ref st]=[some (.ref kt),some (.ref st)] from rfl]
 clear hu hu0 nd hr
 push_cast [and_true]
 have sz:=sizeLine_eq
 have fl:(kinds.map V.str).all gw=true:=List.all_eq_true.mpr fun x hx=>by obtain ⟨z,_,rfl⟩:=List.mem_map.mp hx;rfl
 refine ⟨⟨sh,hS⟩,fun D hD=>Cr (xs:=sh) (fun i ys=>ys=(sh.take i).filter (isH kinds)) hS (by omega) hD rfl (fun i x ys H3 G' K' hx hP hl2 hS' hG hK'=>?_) fun ys H3 hP hl2 hS' hD2=>?_⟩
 ·have hxw:=hw x (List.mem_of_getElem? hx)
  have et:sh.take (i+1)=sh.take i++[x]:=by rw [List.take_add_one,hx];rfl
  push_cast [rIn]
  refine ⟨_,.inr (hS'.tup hK),hxw.flat,fl,b8 (fun e=>?_) fun e=>?_⟩
  ·rw [x8 hxw] at e
   refine hK' _ _ (ao.refl _) ?_
   rw [et,List.filter_append,←hP,List.filter_cons,if_pos e]
   rfl
  ·rw [x8 hxw] at e
   refine hG _ (ao.refl _) ?_
   rw [et,List.filter_append,←hP,List.filter_cons,if_neg e]
   exact (List.append_nil _).symm
 ·rw [List.take_length,←ic] at hP
  subst hP
  exact q D H3 hS' hD hD2
noncomputable abbrev lz:Stmt:=top 28
theorem Fi:az ["book","words","ends","found","back","place","rule","under"] ["book","words"] (ah lz):=⟨rfl,rfl,rfl,by decide+kernel,rfl,by decide+kernel,by decide+kernel⟩
theorem Jp (G:Gs w K mg) (h_law_ends:Has P w K mg base k "_law_ends" ["words"] (y9 K)) (h_law_holes:Has P w K mg base k "_law_holes" ["kinds","shape"] (mz K)) (h_law_laid:Has P w K mg base k "_law_laid" ["kinds","shape","words","ends","place"] (qx K)) (D:Def K mg "_law_fits" lz ["book","words"]):Has P w K mg base (k+1) "_law_fits" ["book","words"] sr:=by
 refine D.has Fi (fun vs H Q E h=>?_) (fun f cdv A outer s H vs Q E hr h=>?_)
 ·obtain ⟨_,_,_,_,_,rfl,_,_,_,_,_⟩:=h
  rfl
 have nd:=Fi.nd
 have hu:=b7 hr
 have hu0:=Nat.lt_of_succ_lt hu
 obtain ⟨b,wt,kinds,rs,ws,rfl,hB,hW,bk,tw,q⟩:=h
 have m_len:=G.m_len
 have m_list:=G.m_list
 have m_range:=G.m_range
 have m_zip:=G.m_zip
 refine ⟨_,(A4 (A7 2 nd (AG h_law_ends hr (A1 (A0 1) (A2 0)))) (A4 (A7 3 nd (AH (A2 0))) (A4 (B0 (BS m_range (A1 (AA (AV 0) m_len cm (A1 (A0 1) (A2 0))) (A2 0))) (AR 4 nd (by first | exact Or.inl rfl | exact Or.inr rfl)) (A4 (A7 5 nd (A5 (B8 0) (A5 (B8 0) (AA (AV 0) m_len cm (A1 (A0 1) (A2 0))) (A3 0)) (A0 4))) (A6 (B0 (BW (A9 (AW 0) (A0 0) (A3 0))) (AR 6 nd (by first | exact Or.inl rfl | exact Or.inr rfl)) (A4 (A7 7 nd (AG h_law_laid hr (A1 (A9 (AW 0) (A0 0) (A3 0)) (A1 (A9 (AW 0) (A0 6) (A3 0)) (A1 (A0 1) (A1 (A0 2) (A1 (A0 5) (A2 0)))))))) (A6 (AD (BV (@yz _ _ _ _ _ (A0 7)) (by first | exact dw _ (by decide) (by decide) | rfl)) (A6 (AQ (AS PySem.F.plainAttrs_list PySem.F.slot_list_append PySem.F.type_list_append (AX 0) (A0 3) (A1 (AL (A1 (A0 6) (A1 (A0 5) (A1 (@ub _ _ _ _ _ _ _ _ rfl rfl m_list rfl m_zip (A1 (A9 (AW 0) (A0 7) (A3 0)) (A1 (AG h_law_holes hr (A1 (A9 (AW 0) (A0 0) (A3 0)) (A1 (A9 (AW 0) (A0 6) (A3 0)) (A2 0)))) (A2 0))) rfl rfl rfl) (A2 0))))) (A2 0))))) (AN 0)))))))) (A6 (AC (A0 3)))))),?_⟩
 rw [show start ["book","words","ends","found","back","place","rule","under"] [.ref b,.ref wt]=[some (.ref b),some (.ref wt),none,none,none,none,none,none] from rfl]
 clear hu hu0 nd hr
 push_cast [and_true]
 have sz:=sizeLine_eq
 have wl:=tw.len
 have rl:=bk.len
 refine mkEnds (SqT.of hW) (fun v hv=>(tw.w v hv).1) tw.one wl fun et H1 s1 het e1=>⟨Nat.zero_le _,fun fl hfl=>⟨ws,.inr (SqT.of ((s1.trans (aa hfl _)) _ _ hW)),by omega,by omega,?_⟩⟩
 obtain ⟨kt,rt,ra,hb,hkt,hrt,hRA⟩:=hB
 rw [show ((ws.length:Nat):Int).toNat=ws.length by omega]
 obtain ⟨P1,eP1⟩:∃P1:Nat→L2.St→Hp→Prop,∀j σ H',P1 j σ H'↔∃(as:List Addr) (v4 v5 v6 v7:Option V),σ=[some (.ref b),some (.ref wt),some (.ref et),some (.ref fl),v4,v5,v6,v7]∧ao H1 H'∧H' fl=some (.lst (as.map V.ref))∧cu H' (fun x=>H1 x≠none∨x=fl) as (yl kinds rs ws j):=⟨_,fun _ _ _=>Iff.rfl⟩
 refine fj (lo:=0) P1 ((eP1 _ _ _).mpr ⟨[],none,none,none,none,rfl,aa hfl _,ae,cu.nil _ _⟩) ?_ ?_
 ·intro j σ H2 hj hh
  refine ob5 ((eP1 _ _ _).mp hh) fun as v4 v5 v6 v7 hh=>?_
  have s2:=hh.2.1
  have f2:=hh.2.2.1
  have F2:=hh.2.2.2
  obtain rfl:=hh.1
  clear hh
  have S2:=s1.trans s2
  push_cast [and_true]
  refine ⟨ws,.inr (SqT.of (S2 _ _ hW)),?_⟩
  obtain ⟨p,hp,ep⟩:∃p:Nat,p=ws.length - 1 - j∧((ws.length:Nat):Int) - 1 - (0+(j:Int))=(p:Int):=⟨_,rfl,by omega⟩
  rw [ep]
  refine br (S2 _ _ hb) rfl ⟨rt,rfl,⟨_,SqT.of (S2 _ _ hrt)⟩,?_⟩
  obtain ⟨P2,eP2⟩:∃P2:Nat→L2.St→Hp→Prop,∀i σ H',P2 i σ H'↔∃(as:List Addr) (v6 v7:Option V),σ=[some (.ref b),some (.ref wt),some (.ref et),some (.ref fl),some (.int (0+(j:Int))),some (.int (p:Int)),v6,v7]∧ao H1 H'∧H' fl=some (.lst (as.map V.ref))∧cu H' (fun x=>H1 x≠none∨x=fl) as (yl kinds rs ws j++(rs.take i).filterMap (il kinds ws p)):=⟨_,fun _ _ _=>Iff.rfl⟩
  refine m6 (xs:=ra.map V.ref) P2 ((eP2 _ _ _).mpr ⟨as,v6,v7,rfl,s2,f2,by rw [List.take_zero];exact (List.append_nil _).symm ▸ F2⟩) (fun i σ H' _ h=>by obtain ⟨_,_,_,_,s,_⟩:=(eP2 _ _ _).mp h;exact SqT.of ((s1.trans s) _ _ hrt)) ?_ ?_
  ·intro i y σ H5 hy hh
   refine ob3 ((eP2 _ _ _).mp hh) fun as v6 v7 hh=>?_
   have s5:=hh.2.1
   have f5:=hh.2.2.1
   have F5:=hh.2.2.2
   obtain rfl:=hh.1
   clear hh
   have S5:=s1.trans s5
   rw [List.getElem?_map] at hy
   obtain ⟨ai,hai,rfl⟩:=Option.map_eq_some_iff.mp hy
   have hil:i < rs.length:=by rw [←hRA.1];exact (List.getElem?_eq_some_iff.mp hai).1
   have hri:rs[i]?=some rs[i]:=List.getElem?_eq_getElem hil
   obtain ⟨a',ha',sa,da,ds,g1,g2,g3⟩:=hRA.2 i _ hri
   obtain rfl:a'=ai:=Option.some.inj (ha'.symm.trans hai)
   generalize rs[i]=r at hri g1 g2
   have hrm:=List.mem_of_getElem? hri
   obtain ⟨w1,w2,w3⟩:=bk.sh r hrm
   have et':(rs.take (i+1)).filterMap (il kinds ws p)=(rs.take i).filterMap (il kinds ws p)++(il kinds ws p r).toList:=by
    rw [List.take_add_one,hri,List.filterMap_append]
    congr 1
   push_cast [and_true]
   refine br (S5 _ _ hb) rfl (br (S5 _ _ g1) rfl (Nu (SqT.of (S5 _ _ g2)) (SqT.of (S5 _ _ hkt)) (SqT.of (S5 _ _ hW)) (s5 _ _ e1) bk.kd w1 w2 (by omega) tw (by omega) fun H6 s6=>?_))
   have S6:=S5.trans s6
   cases hu:dk kinds ws r.shape p ⟨[],[],[]⟩ with
   | none=>
    have ef:il kinds ws p r=none:=by unfold il;rw [hu];rfl
    refine xo ?_
    push_cast [ux]
    rw [if_neg (by simp)]
    refine (eP2 _ _ _).mpr ⟨as,_,_,rfl,s5.trans s6,s6 _ _ f5,?_⟩
    rw [et',ef,show (none:Option Pc.Lf).toList=[] from rfl,List.append_nil]
    exact F5.same s6
   | some u=>
    intro t H7 s7 hu7 ok7
    have ef:il kinds ws p r=some ⟨p,r,u.hs.zip (ba kinds r.shape)⟩:=by unfold il;rw [hu];rfl
    have S7:=S6.trans s7
    obtain ⟨t1,t2,t3,u1,u2,_⟩:=id hu7
    push_cast [ux,tLZ]
    rw [if_pos (by simp)]
    have s57:=s6.trans s7
    have f7:=s57 _ _ f5
    have hn:=(qz bk.kd r.shape p _ u w1 hu).1
    refine ⟨av f7,br u1 rfl (br (S7 _ _ hb) rfl (br (S7 _ _ g1) rfl (Ks (SqT.of (S7 _ _ hkt)) (SqT.of (S7 _ _ g2)) w1 (by omega) fun l H8 s8 hl8 h8=>?_)))⟩
    refine ⟨t1,rfl,l,rfl,u.hs.map plV,SqT.of (s8 _ _ u2),(ba kinds r.shape).map V.str,SqL.of h8,by rw [List.length_map,List.length_map];simpa using hn,fun l2 bs H9 s9 hl9 hal hL hA=>⟨by show (3:Nat)≤sizeLine;decide,fun pr hpr=>?_⟩⟩
    have sA:=aa hpr (.tup [V.ref a',V.int (p:Int),V.ref l2])
    have eA:upd H9 pr (.tup [V.ref a',V.int (p:Int),V.ref l2]) pr=some (.tup [V.ref a',V.int (p:Int),V.ref l2]):=ae
    generalize upd H9 pr (.tup [V.ref a',V.int (p:Int),V.ref l2])=HA at sA eA ⊢
    have s7A:=s8.trans (s9.trans sA)
    have fA:=s7A _ _ f7
    have fal:as.length≤100000+100:=by
     rw [F5.1,List.length_append]
     have h1:=ud kinds rs ws rl j
     have h2:((rs.take i).filterMap (il kinds ws p)).length≤(rs.take i).length:=List.length_filterMap_le _ _
     rw [List.length_take] at h2
     omega
    refine (bj (K:=K) fA (by rw [List.length_map];omega) ((eP2 _ _ _).mpr ⟨as++[pr],_,_,rfl,((s5.trans s57).trans s7A).upd hfl _,by rw [ae,List.map_append];rfl,?_⟩)).2
    rw [et',ef,←List.append_assoc]
    refine cu.kx (cu.snoc (F5.same (s57.trans s7A)) ⟨a',l2,?_,eA,⟨sa,da,ds,(S7.trans s7A) _ _ g1,(S7.trans s7A) _ _ g2,(S7.trans s7A) _ _ g3⟩,?_⟩) ((Kx.upd fA).weak fun x hx=>.inr hx)
    ·have f9:H7 l2=none:=s8.free hl9
     rintro (z | z)
     ·exact z ((s5.trans s57).free f9)
     ·exact (ag f7 f9) z.symm
    ·refine ⟨bs,sA _ _ hL,?_,fun j' k hj'=>?_⟩
     ·rw [hal,List.length_map,List.length_zip]
      have:u.hs.length=(ba kinds r.shape).length:=by simpa using hn
      omega
     ·obtain ⟨k1,k2⟩:=List.getElem?_zip_eq_some.mp (show (u.hs.zip (ba kinds r.shape))[j']?=some (k.1,k.2) from hj')
      obtain ⟨a2,b1,b2⟩:=hA j' _ _ (by rw [List.getElem?_map,k1];rfl) (by rw [List.getElem?_map,k2];rfl)
      exact ⟨a2,b1,sA _ _ b2⟩
  ·intro σ H5 hh
   refine ob3 ((eP2 _ _ _).mp hh) fun as v6 v7 hh=>?_
   have s5:=hh.2.1
   have f5:=hh.2.2.1
   have F5:=hh.2.2.2
   obtain rfl:=hh.1
   clear hh
   refine (eP1 _ _ _).mpr ⟨as,_,_,_,_,rfl,s5,f5,?_⟩
   rw [List.length_map,List.take_of_length_le (by rw [hRA.1];exact Nat.le_refl _),hp] at F5
   rw [o8]
   exact F5
 ·intro σ H2 hh
  refine ob5 ((eP1 _ _ _).mp hh) fun as v4 v5 v6 v7 hh=>?_
  have s2:=hh.2.1
  have f2:=hh.2.2.1
  have F2:=hh.2.2.2
  obtain rfl:=hh.1
  clear hh
  push_cast [and_true]
  exact q fl as H2 (s1.trans s2) (s1.free hfl) f2 (F2.weak fun x hx=>.inl fun z=>hx (s1.free z))
noncomputable abbrev ma:Stmt:=top 29
theorem E6:az ["rule","keys","least","cost","key"] ["rule","keys","least"] (ah ma):=⟨rfl,rfl,rfl,by decide+kernel,rfl,by decide+kernel,by decide+kernel⟩
theorem Ll (G:Gs w K mg) (D:Def K mg "_law_cost" ma ["rule","keys","least"]):Has P w K mg base (k+1) "_law_cost" ["rule","keys","least"] m5:=by
 refine D.has E6 (fun vs H Q E h=>?_) (fun f cdv A outer s H vs Q E hr h=>?_)
 ·obtain ⟨_,_,_,_,_,_,_,rfl,_,_,_,_⟩:=h
  rfl
 have nd:=E6.nd
 have hu:=b7 hr
 have hu0:=Nat.lt_of_succ_lt hu
 obtain ⟨ra,hl,d,r,hs,g,n,rfl,hR,hH,hT,q⟩:=h
 refine ⟨_,(A4 (A7 3 nd (A9 (AW 0) (A0 0) (A3 0))) (A4 (B0 (BN (A0 1)) (AR 4 nd (by first | exact Or.inl rfl | exact Or.inr rfl)) (A4 (AD (BV (C9 hu (A0 4) (A0 2)) (by first | exact dw _ (by decide) (by decide) | rfl)) (A6 (AC (A3 0))) (AN 0)) (A6 (A7 3 nd (A5 (AO 0) (A0 3) (BI hu (A0 2) (A0 4))))))) (A6 (AC (A0 3))))),?_⟩
 rw [show start ["rule","keys","least","cost","key"] [.ref ra,.ref hl,.ref d]=[some (.ref ra),some (.ref hl),some (.ref d),none,none] from rfl]
 clear hu hu0 nd hr
 push_cast [and_true]
 obtain ⟨as,h1,h2,h3⟩:=hH
 obtain ⟨sa,da,ds,r1,r2,r3⟩:=hR
 refine br r1 rfl ⟨⟨_,SqL.of h1⟩,fc (xs:=as.map V.ref) (fun i σ H'=>∃(c:Int) (v4:Option V),σ=[some (.ref ra),some (.ref hl),some (.ref d),some (.int c),v4]∧H=H'∧cost g c (hs.drop i)=cost g r.price hs) ⟨r.price,none,rfl,rfl,rfl⟩ (fun i σ H' _ h=>by obtain ⟨_,_,_,rfl,_⟩:=h;exact SqL.of h1) ?_ ?_⟩
 ·rintro i y σ H' hy ⟨c,v4,rfl,rfl,hc⟩
  rw [List.getElem?_map] at hy
  obtain ⟨a,ha,rfl⟩:=Option.map_eq_some_iff.mp hy
  have hil:i < hs.length:=by rw [←h2];exact (List.getElem?_eq_some_iff.mp ha).1
  have hk:hs[i]?=some hs[i]:=List.getElem?_eq_getElem hil
  obtain ⟨a',ha',hA⟩:=h3 i _ hk
  obtain rfl:a'=a:=Option.some.inj (ha'.symm.trans ha)
  rw [List.drop_eq_getElem_cons hil] at hc
  push_cast [and_true]
  refine ⟨_,hT.get hA,?_⟩
  cases e:g hs[i] with
  | none=>
   rw [ie e] at hc
   rw [←hc] at q
   rw [if_pos (by simp)]
   exact q
  | some v=>
   rw [gf e] at hc
   have hG:=hT.val hA e
   rw [if_neg (by simp)]
   exact ⟨_,hG,hc⟩
 ·rintro σ H' ⟨c,v4,rfl,rfl,hc⟩
  rw [List.length_map,h2,List.drop_length] at hc
  have hc:some c=cost g r.price hs:=hc
  push_cast [and_true]
  rw [←hc] at q
  exact q
noncomputable abbrev jf:Stmt:=top 30
theorem Bi:az ["fits","least","again","rule","place","keys","cost","key"] ["fits"] (ah jf):=⟨rfl,rfl,rfl,by decide+kernel,rfl,by decide+kernel,by decide+kernel⟩
theorem Ga (G:Gs w K mg) (h_law_cost:Has P w K mg base k "_law_cost" ["rule","keys","least"] m5) (D:Def K mg "_law_least" jf ["fits"]):Has P w K mg base (k+1) "_law_least" ["fits"] oh:=by
 refine D.has Bi (fun vs H Q E h=>?_) (fun f cdv A outer s H vs Q E hr h=>?_)
 ·obtain ⟨_,_,_,rfl,_,_,_,_,_⟩:=h
  rfl
 have nd:=Bi.nd
 have hu:=b7 hr
 have hu0:=Nat.lt_of_succ_lt hu
 obtain ⟨fl,as,fs,rfl,hF,hFs,hn,ho,q⟩:=h
 refine ⟨_,(A4 (A7 1 nd (@Bj _ _)) (A4 (A7 2 nd (BL 0)) (A4 (C3 (B6 (A0 2)) (A4 (A7 2 nd (BL 0)) (A6 (B0 (BN (A0 0)) (C4 (AZ (AR 3 nd (by first | exact Or.inl rfl | exact Or.inr rfl)) (AZ (AR 4 nd (by first | exact Or.inl rfl | exact Or.inr rfl)) (AZ (AR 5 nd (by first | exact Or.inl rfl | exact Or.inr rfl)) (@iy _))))) (A4 (A7 6 nd (AG h_law_cost hr (A1 (A0 3) (A1 (A0 5) (A1 (A0 1) (A2 0)))))) (A4 (A7 7 nd (AL (A1 (A0 4) (A1 (A9 (AW 0) (A0 3) (A3 0)) (A2 0))))) (A6 (AD (BD (BO (AE (@i7 _) (A0 6) (A3 0) (AB 0)) (BQ (BD (BY (BV (C9 hu (A0 7) (A0 1)) (by first | exact dw _ (by decide) (by decide) | rfl)) (BZ (AE (@ow _) (A0 6) (BI hu (A0 1) (A0 7)) (AB 0)))))))) (A4 (@Dx _ _ _ _ _ _ _ _ _ hu (A0 1) (A0 7) (A0 6) rfl) (A6 (A7 2 nd (BL 0)))) (AN 0))))))))) (A6 (AC (A0 1)))))),?_⟩
 rw [show start ["fits","least","again","rule","place","keys","cost","key"] [.ref fl]=[some (.ref fl),none,none,none,none,none,none,none] from rfl]
 clear hu hu0 nd hr
 push_cast [and_true]
 have sz:=sizeLine_eq
 have hal:=hFs.1
 intro d hd
 have own:∀f∈fs.map gr,1≤f.own:=fun f hf=>by
  obtain ⟨f',hf',rfl⟩:=List.mem_map.mp hf
  exact ho f' hf'
 obtain ⟨μ,Ok,ok0,okpos,okstep⟩:=ends (F:=fs.map gr) (g0:=fun _=>none) (fun k v h=>nomatch h) own ⟨0,fun k v h=>nomatch h⟩
 have cl:∀g',cnt (fs.map gr) g'≤fs.length:=fun g'=>by have:=Bu (fs.map gr) g';rw [List.length_map] at this;exact this
 obtain ⟨P1,eP1⟩:∃P1:L2.St→Hp→Prop,∀σ H',P1 σ H'↔∃(g':Ky→Option Int) (ks:List Ky) (b:Bool) (v3 v4 v5 v6 v7:Option V),σ=[some (.ref fl),some (.ref d),some (.bl b),v3,v4,v5,v6,v7]∧ao H H'∧TbK H' d g' ks∧ks.length≤cnt (fs.map gr) g'∧Ok g'∧Due (fs.map gr) g'∧(b=false→iu (fs.map gr) g'):=⟨_,fun _ _=>Iff.rfl⟩
 refine j5 P1 (fun σ H'=>2*μ (gOf H' d)+blAt2 σ) ((eP1 _ _).mpr ⟨fun _=>none,[],true,none,none,none,none,none,rfl,aa hd _,TbK.nil,Nat.zero_le _,ok0,(fun k v h=>nomatch h),fun e=>nomatch e⟩) ?_ ?_
 ·intro σ H1 hh
  refine ob8 ((eP1 _ _).mp hh) fun g1 ks1 b v3 v4 v5 v6 v7 hh=>?_
  have s1:=hh.2.1
  have T1:=hh.2.2.1
  have L1:=hh.2.2.2.1
  have ok1:=hh.2.2.2.2.1
  have du1:=hh.2.2.2.2.2.1
  have st1:=hh.2.2.2.2.2.2
  obtain rfl:=hh.1
  clear hh
  push_cast [and_true]
  cases b with
  | false=>
   rw [if_neg (by simp)]
   exact q d H1 g1 ks1 s1 hd T1 ⟨st1 rfl,du1,okpos g1 ok1⟩ (Nat.le_trans L1 (cl g1))
  | true=>
   rw [if_pos (by simp)]
   have e1:=zc T1.tb
   obtain ⟨Pv,ePv⟩:∃Pv:Nat→L2.St→Hp→Prop,∀i σ H',Pv i σ H'↔∃(g':Ky→Option Int) (ks:List Ky) (b:Bool) (v3 v4 v5 v6 v7:Option V),σ=[some (.ref fl),some (.ref d),some (.bl b),v3,v4,v5,v6,v7]∧ao H H'∧TbK H' d g' ks∧ks.length≤cnt (fs.map gr) g'∧Ok g'∧Due (fs.map gr) g'∧(b=false→g'=g1∧∀(j:Nat) (f:Pc.Lf),j < i→fs[j]?=some f→StL g1 f)∧(b=true→μ g' < μ g1):=⟨_,fun _ _ _=>Iff.rfl⟩
   refine ⟨⟨_,SqL.of (s1 _ _ hF)⟩,fc (xs:=as.map V.ref) Pv ((ePv _ _ _).mpr ⟨g1,ks1,false,v3,v4,v5,v6,v7,rfl,s1,T1,L1,ok1,du1,fun _=>⟨rfl,fun j f h=>absurd h (Nat.not_lt_zero _)⟩,fun e=>nomatch e⟩) (fun i σ H' _ h=>by obtain ⟨_,_,_,_,_,_,_,_,_,s,_⟩:=(ePv _ _ _).mp h;exact SqL.of (s _ _ hF)) ?_ ?_⟩
   ·intro i y σ H2 hy hh
    refine ob8 ((ePv _ _ _).mp hh) fun g2 ks2 b v3 v4 v5 v6 v7 hh=>?_
    have s2:=hh.2.1
    have T2:=hh.2.2.1
    have L2:=hh.2.2.2.1
    have ok2:=hh.2.2.2.2.1
    have du2:=hh.2.2.2.2.2.1
    have bt2:=hh.2.2.2.2.2.2.1
    have bf2:=hh.2.2.2.2.2.2.2
    obtain rfl:=hh.1
    clear hh
    rw [List.getElem?_map] at hy
    obtain ⟨a,ha,rfl⟩:=Option.map_eq_some_iff.mp hy
    obtain ⟨f,hfi,ra,hl,_,h3,h4,h5⟩:=(hFs.same s2).get ha
    have hfm:=List.mem_of_getElem? hfi
    refine Bq h3 rfl ?_
    push_cast [and_true]
    refine Fg h4 h5 T2.tb ?_
    obtain ⟨sa,da,ds,r1,r2,r3⟩:=h4
    refine br r1 rfl ⟨by show (2:Nat)≤sizeLine;decide,fun p1 hp1=>?_⟩
    have s3:=aa hp1 (.tup [V.int (f.place:Int),V.str f.r.kind])
    have k3:upd H2 p1 (.tup [V.int (f.place:Int),V.str f.r.kind]) p1=some (kyT (f.place,f.r.kind)):=ae
    generalize upd H2 p1 (.tup [V.int (f.place:Int),V.str f.r.kind])=H3 at s3 k3 ⊢
    have T3:=T2.same s3
    have no:∀w3 w4 w5 w6 w7,StL g2 f→Pv (i+1) [some (.ref fl),some (.ref d),some (.bl b),w3,w4,w5,w6,w7] H3:=fun w3 w4 w5 w6 w7 so=>(ePv _ _ _).mpr ⟨g2,ks2,b,w3,w4,w5,w6,w7,rfl,s2.trans s3,T3,L2,ok2,du2,fun e=>⟨(bt2 e).1,fun j f' hj hf'=>by
     obtain ⟨e1',h⟩:=bt2 e
     by_cases c:j < i
     ·exact h j f' c hf'
     ·obtain rfl:j=i:=by omega
      obtain rfl:f=f':=Option.some.inj (hfi.symm.trans hf')
      rw [←e1']
      exact so⟩,bf2⟩
    have yes:∀(c:Int) w3 w4 w5 w6 w7,cost g2 f.r.price f.hs=some c→Imp g2 (f.place,f.r.kind) c→∃H'',vc H3 d (.ref p1) (.int c) H''∧Pv (i+1) [some (.ref fl),some (.ref d),some (.bl true),w3,w4,w5,w6,w7] H'':=fun c w3 w4 w5 w6 w7 hc im=>by
     have hfF:gr f∈fs.map gr:=List.mem_map.mpr ⟨f,hfm,rfl⟩
     obtain ⟨o,ks',hput,htb,hle⟩:=T3.put (v:=c) k3 (by have:=cl g2;omega)
     obtain ⟨ok',lt⟩:=okstep g2 (gr f) c ok2 hfF hc im
     refine ⟨upd H3 d o,hput,(ePv _ _ _).mpr ⟨eh g2 (f.place,f.r.kind) c,ks',true,w3,w4,w5,w6,w7,rfl,(s2.trans s3).upd hd o,htb,Ol hfF (f:=gr f) ?_,ok',Mt du2 hfF hc im,(fun e=>nomatch e),fun _=>?_⟩⟩
     ·show ks'.length≤if (g2 (f.place,f.r.kind)).isSome then _ else _
      cases e:g2 (f.place,f.r.kind) with
      | none=>
       rw [e] at hle
       simp only [Option.isSome_none,Bool.false_eq_true,if_false] at hle ⊢
       omega
      | some v=>
       rw [e] at hle
       simp only [Option.isSome_some,if_true] at hle ⊢
       omega
     ·have lt:μ (eh g2 (f.place,f.r.kind) c) < μ g2:=lt
      cases b with
      | false=>
       obtain ⟨rfl,_⟩:=bt2 rfl
       exact lt
      | true=>
       have:=bf2 rfl
       omega
    cases e:cost g2 f.r.price f.hs with
    | none=>
     exact ifN (by show ¬(0:Int) > 0;decide) (no _ _ _ _ _ fun c hc=>by rw [e] at hc;cases hc)
    | some c=>
     have cp:=sk (okpos g2 ok2) e
     have cp2:=ho f hfm
     refine b8 (fun _=>⟨_,T3.tb.get k3,?_⟩) fun z=>absurd (show c > 0 by omega) z
     cases e2:g2 (f.place,f.r.kind) with
     | none=>
      rw [if_pos (by simp)]
      exact yes c _ _ _ _ _ e (.inl e2)
     | some v=>
      rw [if_neg (by simp)]
      refine ⟨_,T3.tb.val k3 e2,b8 (fun lt=>yes c _ _ _ _ _ e (.inr ⟨v,e2,lt⟩)) fun nlt=>no _ _ _ _ _ fun c' hc'=>⟨v,e2,?_⟩⟩
      rw [e] at hc'
      have:=Option.some.inj hc'
      have nlt:¬c < v:=nlt
      omega
   ·intro σ H2 hh
    refine ob8 ((ePv _ _ _).mp hh) fun g2 ks2 b v3 v4 v5 v6 v7 hh=>?_
    have s2:=hh.2.1
    have T2:=hh.2.2.1
    have L2:=hh.2.2.2.1
    have ok2:=hh.2.2.2.2.1
    have du2:=hh.2.2.2.2.2.1
    have bt2:=hh.2.2.2.2.2.2.1
    have bf2:=hh.2.2.2.2.2.2.2
    obtain rfl:=hh.1
    clear hh
    refine ⟨(eP1 _ _).mpr ⟨g2,ks2,b,v3,v4,v5,v6,v7,rfl,s2,T2,L2,ok2,du2,fun e=>?_⟩,?_⟩
    ·obtain ⟨rfl,h⟩:=bt2 e
     exact Di fun j f hf=>h j f (by rw [List.length_map,hal];exact (List.getElem?_eq_some_iff.mp hf).1) hf
    ·rw [e1,zc T2.tb]
     cases b with
     | false=>
      obtain ⟨rfl,_⟩:=bt2 rfl
      show 2*μ g2+0 < 2*μ g2+1
      omega
     | true=>
      have:=bf2 rfl
      show 2*μ g2+1 < 2*μ g1+1
      omega
 ·intro σ H1 Q1 Q2 h c
  simp only [jv,tB,ik] at c ⊢
  obtain ⟨v,hv,cc,e,hq⟩:=c
  exact ⟨v,hv,cc,e,h _ _ hq⟩
noncomputable abbrev jh:Stmt:=top 31
theorem zw:az ["fits","least","found","rule","place","keys"] ["fits","least"] (ah jh):=⟨rfl,rfl,rfl,by decide+kernel,rfl,by decide+kernel,by decide+kernel⟩
theorem Hc (G:Gs w K mg) (h_law_cost:Has P w K mg base k "_law_cost" ["rule","keys","least"] m5) (D:Def K mg "_law_reaching" jh ["fits","least"]):Has P w K mg base (k+1) "_law_reaching" ["fits","least"] ou:=by
 refine D.has zw (fun vs H Q E h=>?_) (fun f cdv A outer s H vs Q E hr h=>?_)
 ·obtain ⟨_,_,_,_,_,_,rfl,_,_,_,_,_,_,_⟩:=h
  rfl
 have nd:=zw.nd
 have hu:=b7 hr
 have hu0:=Nat.lt_of_succ_lt hu
 have hu8:=hu8_of hr
 obtain ⟨fl,d,as,fs,g,ks,rfl,hF,hFs,hn,hT,hk,T,q⟩:=h
 have m_dict:=G.m_dict
 refine ⟨_,(A4 (A7 2 nd (B7 (@lh _ hu8) m_dict b_dict (A1 (@Lx _ _ _ (BR (BK ["key"] [] [] trivial trivial) (@J2 _ _ _ _ (A0 1)) (fun _ _ _=>(B9 0 (show List.Nodup (["key"]:List Str) by decide+kernel))) (fun _ _ _=>(@pif0 _)) (fun _ _ _=>(AL (A1 (A0 0) (A1 (AH (A2 0)) (A2 0))))))) (A2 0)))) (A4 (B0 (BN (A0 0)) (C4 (AZ (AR 3 nd (by first | exact Or.inl rfl | exact Or.inr rfl)) (AZ (AR 4 nd (by first | exact Or.inl rfl | exact Or.inr rfl)) (AZ (AR 5 nd (by first | exact Or.inl rfl | exact Or.inr rfl)) (@iy _))))) (A6 (AD (AE (AJ 0) (AG h_law_cost hr (A1 (A0 3) (A1 (A0 5) (A1 (A0 1) (A2 0))))) (AS PySem.F.plainAttrs_dict PySem.F.slot_dict_get PySem.F.type_dict_get (@Ik _ hu) (A0 1) (A1 (AL (A1 (A0 4) (A1 (A9 (AW 0) (A0 3) (A3 0)) (A2 0)))) (A1 (C5 (@ng _) (A3 0)) (A2 0)))) (AB 0)) (A6 (AQ (AS PySem.F.plainAttrs_list PySem.F.slot_list_append PySem.F.type_list_append (AX 0) (BI hu (A0 2) (AL (A1 (A0 4) (A1 (A9 (AW 0) (A0 3) (A3 0)) (A2 0))))) (A1 (A9 (AW 0) (A0 3) (A3 0)) (A2 0))))) (AN 0)))) (A6 (AC (A0 2))))),?_⟩
 rw [show start ["fits","least","found","rule","place","keys"] [.ref fl,.ref d]=[some (.ref fl),some (.ref d),none,none,none,none] from rfl]
 clear hu hu0 nd hr
 push_cast [La,Iw]
 have sz:=sizeLine_eq
 have hal:=hFs.1
 have hm:=hT.mem
 obtain ⟨kvs,hd,hks,nd,hv⟩:=id hT
 have kl:kvs.length=ks.length:=by
  have:=congrArg List.length hks
  rw [List.length_map,List.length_map] at this
  exact this
 have ats:∀(i:Nat) (k:List Key) (v:V),kvs[i]?=some (k,v)→∃k',ks[i]?=some k'∧k=kyK k':=fun i k v hi=>by
  have e:=congrArg (fun l=>l[i]?) hks
  simp only [List.getElem?_map,hi,Option.map_some] at e
  obtain ⟨k',h1,h2⟩:=Option.map_eq_some_iff.mp e.symm
  exact ⟨k',h1,h2.symm⟩
 refine ⟨d,kvs,hd,kvs,hd,fun o D hDn=>K0 (fun i ys H1=>∃cs ls:List Addr,ys=cs.map V.ref∧Ak H H1 D ks i cs ls) (fun i ys H1 H2 s h=>by obtain ⟨cs,ls,h1,h2⟩:=h;exact ⟨cs,ls,h1,h2.mono s⟩) ae (by omega) hDn ⟨[],[],rfl,rfl,rfl,List.nodup_nil,fun j k h=>absurd h (Nat.not_lt_zero _)⟩ (fun i t k v ys H1 G' K' hi ht hP hys hl2 hS hG hK=>?_) fun ys H2 hP hl2 hS hD2=>?_⟩
 ·obtain ⟨k',hk',rfl⟩:=ats i k v hi
  obtain ⟨cs,ls,rfl,hP⟩:=hP
  have ht:H1 t=some (kyT k'):=ht
  push_cast [and_true]
  refine ⟨Nat.zero_le _,fun l hl=>⟨by show (2:Nat)≤sizeLine;decide,fun c hc=>?_⟩⟩
  have s2:=(aa hl (.lst [])).trans (aa hc (.tup [V.ref t,V.ref l]))
  have fl1:upd H d (.frz o (.dT kvs)) l=none:=hS.free hl
  have nld:l≠d:=fun z=>by rw [z,ae] at fl1;cases fl1
  have fc1:=(aa hl (.lst [])).free hc
  refine hK _ _ s2 ⟨cs++[c],ls++[l],by rw [List.map_append];rfl,Ak.snoc (by rw [←kl];exact (List.getElem?_eq_some_iff.mp hi).1) hP hk' s2 hl (by rw [af nld] at fl1;exact fl1) (ag hys fc1).symm (ee ht hys (by intro z;cases z)) (ag hys hl).symm ae (s2 _ _ ht) (aa hc _ _ _ ae)⟩
 ·obtain ⟨cs,ls,rfl,hP⟩:=hP
  rw [kl] at hP
  have S3:=Cc hd hS
  have fz:H2 d=some (.frz o (.dT kvs)):=hS _ _ ae
  have nD:D≠d:=ee hD2 fz (by intro z;cases z)
  have kp:∀(b:Addr) (u:HO),(∀o' x,u≠.frz o' x)→H2 b=some u→upd H2 d (.dT kvs) b=some u:=fun b u hu e=>by rw [af (ee e fz (hu _ _))];exact e
  have ll:=hP.2.1
  refine ⟨⟨o,fz⟩,rfl,cs.map V.ref,by rw [af nD];exact hD2,(ks.zip ls).map fun p=>(kyK p.1,V.ref p.2),by rw [List.length_map,List.length_map,List.length_zip,hP.1,ll,Nat.min_self],fun i p hi=>?_,fun fd hfd=>?_⟩
  ·rw [List.getElem?_map] at hi
   obtain ⟨⟨k,l⟩,hi2,rfl⟩:=Option.map_eq_some_iff.mp hi
   obtain ⟨e1,e2⟩:=List.getElem?_zip_eq_some.mp hi2
   obtain ⟨c,l',t,h1,h2,_,_,_,_,h7,h8,_⟩:=hP.2.2.2 i k (List.getElem?_eq_some_iff.mp e1).1 e1
   obtain rfl:l'=l:=Option.some.inj (h2.symm.trans e2)
   exact ⟨c,by rw [List.getElem?_map,h1];rfl,t,kp _ _ (by intro _ _ z;cases z) h7,kp _ _ (by intro _ _ z;cases z) h8⟩
  ·rw [xh _ [] (by rw [List.nil_append,vf ll];exact ka (fun a b e=>n6 e) nd),List.nil_append]
   have S4:=S3.trans (aa hfd (.dT ((ks.zip ls).map fun p=>(kyK p.1,V.ref p.2))))
   have hfd0:=S3.free hfd
   have R4:RcAt (upd (upd H2 d (.dT kvs)) fd (.dT ((ks.zip ls).map fun p=>(kyK p.1,V.ref p.2)))) fd ks ls (gg (fs.take 0) g):=⟨ae,ll,fun j k l h1 h2=>by
    obtain ⟨c,l',t,g1,g2,_,_,_,_,g7,g8,g9⟩:=hP.2.2.2 j k (List.getElem?_eq_some_iff.mp h1).1 h1
    obtain rfl:l'=l:=Option.some.inj (g2.symm.trans h2)
    have g9:=kp _ _ (by intro _ _ z;cases z) g9
    rw [af (ag g9 hfd)]
    exact g9⟩
   have lf:∀l∈ls,H l=none:=fun l hl=>by
    obtain ⟨j,hj⟩:=List.mem_iff_getElem?.mp hl
    have hjl:j < ks.length:=by rw [←ll];exact (List.getElem?_eq_some_iff.mp hj).1
    obtain ⟨_,l',_,_,g2,_,_,_,g6,_⟩:=hP.2.2.2 j _ hjl (List.getElem?_eq_getElem hjl)
    obtain rfl:l'=l:=Option.some.inj (g2.symm.trans hj)
    exact g6
   have nl:=hP.2.2.1
   generalize upd (upd H2 d (.dT kvs)) fd (.dT ((ks.zip ls).map fun p=>(kyK p.1,V.ref p.2)))=H4 at S4 R4 ⊢
   obtain ⟨P1,eP1⟩:∃P1:Nat→L2.St→Hp→Prop,∀i σ H',P1 i σ H'↔∃v3 v4 v5:Option V,σ=[some (.ref fl),some (.ref d),some (.ref fd),v3,v4,v5]∧ao H H'∧RcAt H' fd ks ls (gg (fs.take i) g):=⟨_,fun _ _ _=>Iff.rfl⟩
   refine ⟨⟨_,SqL.of (S4 _ _ hF)⟩,fc (xs:=as.map V.ref) P1 ((eP1 _ _ _).mpr ⟨none,none,none,rfl,S4,R4⟩) (fun i σ H' _ h=>by obtain ⟨_,_,_,_,s,_⟩:=(eP1 _ _ _).mp h;exact SqL.of (s _ _ hF)) ?_ ?_⟩
   ·intro i y σ H5 hy hh
    refine ob3 ((eP1 _ _ _).mp hh) fun v3 v4 v5 hh=>?_
    have s5:=hh.2.1
    have R5:=hh.2.2
    obtain rfl:=hh.1
    clear hh
    rw [List.getElem?_map] at hy
    obtain ⟨a,ha,rfl⟩:=Option.map_eq_some_iff.mp hy
    obtain ⟨f,hfi,ra,hl,_,h3,h4,h5⟩:=(hFs.same s5).get ha
    have hfm:=List.mem_of_getElem? hfi
    have T5:=hT.same s5
    refine Bq h3 rfl ?_
    push_cast [J4]
    refine Fg h4 h5 T5.tb ?_
    obtain ⟨sa,da,ds,r1,r2,r3⟩:=h4
    have en:=Aa hfi g
    refine ⟨Ho (s5 _ _ hd),br r1 rfl ⟨by show (2:Nat)≤sizeLine;decide,fun p hp=>?_⟩⟩
    have s6:=aa hp (.tup [V.int (f.place:Int),V.str f.r.kind])
    have e6:upd H5 p (.tup [V.int (f.place:Int),V.str f.r.kind]) p=some (kyT (f.place,f.r.kind)):=ae
    generalize upd H5 p (.tup [V.int (f.place:Int),V.str f.r.kind])=H6 at s6 e6 ⊢
    have T6:=T5.same s6
    have R6:=R5.same s6
    refine ⟨_,T6.tb.get e6,?_⟩
    have no:(∀k∈ks,¬((f.place,f.r.kind)=k∧cost g f.r.price f.hs=g k))→∀w3 w4 w5,P1 (i+1) [some (.ref fl),some (.ref d),some (.ref fd),w3,w4,w5] H6:=fun h w3 w4 w5=>(eP1 _ _ _).mpr ⟨w3,w4,w5,rfl,s5.trans s6,R6.congr fun k hk=>by rw [en k,if_neg (h k hk),List.append_nil]⟩
    cases e:g (f.place,f.r.kind) with
    | none=>
     refine ⟨rfl,?_⟩
     have nk:(f.place,f.r.kind)∉ks:=fun z=>by have:=(hm _).mp z;rw [e] at this;cases this
     rw [if_neg (fun z=>by
      cases e2:cost g f.r.price f.hs with
      | none=>rw [e2] at z;exact absurd (V.int.inj z) (by decide)
      | some c=>
       obtain ⟨v,hv',_⟩:=T.st (gr f) (List.mem_map.mpr ⟨f,hfm,rfl⟩) c e2
       rw [show g (gr f).key=g (f.place,f.r.kind) from rfl,e] at hv'
       cases hv')]
     exact no (fun k hk z=>nk (by rw [z.1];exact hk)) _ _ _
    | some v=>
     have vp:=T.pos _ v e
     have hkin:=(hm (f.place,f.r.kind)).mpr (by rw [e];rfl)
     refine ⟨rfl,?_⟩
     by_cases c:cost g f.r.price f.hs=some v
     ·rw [if_pos (by rw [c];rfl)]
      refine br (s6 _ _ r1) rfl ⟨by show (2:Nat)≤sizeLine;decide,fun p2 hp2=>?_⟩
      have s7:=aa hp2 (.tup [V.int (f.place:Int),V.str f.r.kind])
      have e7:upd H6 p2 (.tup [V.int (f.place:Int),V.str f.r.kind]) p2=some (kyT (f.place,f.r.kind)):=ae
      generalize upd H6 p2 (.tup [V.int (f.place:Int),V.str f.r.kind])=H7 at s7 e7 ⊢
      have R7:=R6.same s7
      obtain ⟨j,l,hj,hlj,hG,hL⟩:=R7.get nd e7 hkin
      have nle:(gg (fs.take i) g (f.place,f.r.kind)).length≤fs.length:=by
       unfold gg
       rw [List.length_map]
       exact Nat.le_trans (List.length_filter_le _ _) (by rw [List.length_take];omega)
      refine ⟨_,hG,av hL,br ((s6.trans s7) _ _ r1) rfl (bj (K:=K) hL (by rw [List.length_map];omega) ((eP1 _ _ _).mpr ⟨_,_,_,rfl,(s5.trans (s6.trans s7)).upd (lf l (List.mem_of_getElem? hlj)) _,?_⟩)).2⟩
      exact R7.put nd nl hj hlj (by rw [en _,if_pos ⟨rfl,by rw [c,e]⟩]) fun k' hk' ne=>by rw [en k',if_neg fun z=>ne z.1.symm,List.append_nil]
     ·rw [if_neg (fun z=>by
       cases e2:cost g f.r.price f.hs with
       | none=>rw [e2] at z;have:(0:Int)=v:=V.int.inj z;omega
       | some c'=>rw [e2] at z;have:c'=v:=V.int.inj z;rw [e2,this] at c;exact c rfl)]
      exact no (fun k hk z=>by rw [←z.1,e] at z;exact c z.2) _ _ _
   ·intro σ H5 hh
    refine ob3 ((eP1 _ _ _).mp hh) fun v3 v4 v5 hh=>?_
    have s5:=hh.2.1
    have R5:=hh.2.2
    obtain rfl:=hh.1
    clear hh
    push_cast [and_true]
    rw [List.length_map,hal,List.take_length] at R5
    exact q fd ls H5 s5 hfd0 R5
noncomputable abbrev K9:Stmt:=top 19
theorem Ep:az ["found","due"] ["found","due"] (ah K9):=⟨rfl,rfl,rfl,by decide+kernel,rfl,by decide+kernel,by decide+kernel⟩
theorem Lj (G:Gs w K mg) (h_law_same:Has P w K mg base k "_law_same" ["found","due"] Eb) (D:Def K mg "_law_same" K9 ["found","due"]):Has P w K mg base (k+1) "_law_same" ["found","due"] sq:=by
 refine D.has Ep (fun vs H Q E h=>?_) (fun f cdv A outer s H vs Q E hr h=>?_)
 ·obtain ⟨_,rfl,_,_⟩:=h
  rfl
 have nd:=Ep.nd
 have hu:=b7 hr
 have hu0:=Nat.lt_of_succ_lt hu
 obtain ⟨v,rfl,hv,q⟩:=h
 have m_all:=G.m_all
 have m_bool:=G.m_bool
 have m_int:=G.m_int
 have m_isinstance:=G.m_isinstance
 have m_len:=G.m_len
 have m_list:=G.m_list
 have m_range:=G.m_range
 have m_str:=G.m_str
 have m_tuple:=G.m_tuple
 refine ⟨_,(A4 (AD (B6 (AA (C2 0) m_isinstance ak (A1 (A8 1) (A1 (AL (A1 (AK m_tuple bq) (A1 (AK m_list mj) (A2 0)))) (A2 0))))) (A4 (AD (BD (BY (AE (@Af _) (AA (AT 0) m_isinstance ak (A1 (A8 0) (A1 (AK m_tuple bq) (A2 0)))) (AA (AT 0) m_isinstance ak (A1 (A8 1) (A1 (AK m_tuple bq) (A2 0)))) (AB 0)) (BZ (BX (B6 (AA (C2 0) m_isinstance ak (A1 (A8 0) (A1 (AL (A1 (AK m_tuple bq) (A1 (AK m_list mj) (A2 0)))) (A2 0))))))))) (A6 (AC (BL 0))) (AN 0)) (A6 (AC (BB (BC (AJ 0) (AA (AV 0) m_len cm (A1 (A8 0) (A2 0))) (AA (AV 0) m_len cm (A1 (A8 1) (A2 0))) (AB 0)) (BE (AA (@gz _ rfl) m_all Ls (A1 (BR (BK ["k"] ["found","due"] [0,1] (And.intro rfl (And.intro rfl trivial)) (And.intro (And.intro rfl (And.intro rfl rfl)) (And.intro (And.intro rfl (And.intro rfl rfl)) trivial))) (BS m_range (A1 (AA (AV 0) m_len cm (A1 (A8 1) (A2 0))) (A2 0))) (fun _ _ _=>(B9 0 (show List.Nodup (["k","found","due"]:List Str) by decide+kernel))) (fun _ _ _=>(@pif0 _)) (fun _ _ _=>(AG h_law_same hr (A1 (A9 (@qw _ K rfl) (A8 1) (A0 0)) (A1 (A9 (@qw _ K rfl) (A8 2) (A0 0)) (A2 0)))))) (A2 0)))))))) (AN 0)) (A4 (AD (B6 (AA (AT 0) m_isinstance ak (A1 (A8 1) (A1 (AK m_str ky) (A2 0))))) (A6 (AC (BB (AA (AT 0) m_isinstance ak (A1 (A8 0) (A1 (AK m_str ky) (A2 0)))) (BE (BC (AJ 0) (A8 0) (A8 1) (AB 0)))))) (AN 0)) (A4 (AD (B6 (AA (AT 0) m_isinstance ak (A1 (A8 1) (A1 (AK m_bool iw) (A2 0))))) (A6 (AC (BB (AA (AT 0) m_isinstance ak (A1 (A8 0) (A1 (AK m_bool iw) (A2 0)))) (BE (BC (AJ 0) (A8 0) (A8 1) (AB 0)))))) (AN 0)) (A6 (AC (BB (AA (AT 0) m_isinstance ak (A1 (A8 0) (A1 (AK m_int ko) (A2 0)))) (BB (@yi _ _ _ _ (AA (AT 0) m_isinstance ak (A1 (A8 0) (A1 (AK m_bool iw) (A2 0))))) (BE (BC (AJ 0) (A8 0) (A8 1) (AB 0)))))))))),?_⟩
 rw [show start ["found","due"] [v,v]=[some (v),some (v)] from rfl]
 clear hu hu0 nd hr
 push_cast [sq]
 refine ⟨by show (2:Nat)≤sizeLine;decide,fun p hp=>⟨_,_,ae,?_⟩⟩
 have qq:=q _ (aa hp (.tup [V.ty "tuple",V.ty "list"]))
 obtain ⟨k',rfl⟩:=hv
 cases k' with
 | inl i=>
  refine ⟨_,.int i,false,rfl,qj ⟨_,.int i,false,rfl,qj ⟨_,.int i,false,rfl,qj ⟨_,.int i,true,rfl,wd ⟨_,.int i,false,rfl,wd ⟨rfl,?_⟩⟩⟩⟩⟩⟩
  exact qq
 | inr z=>
  refine ⟨_,.str z,false,rfl,qj ⟨_,.str z,true,rfl,wd ⟨_,.str z,true,rfl,wd ⟨rfl,?_⟩⟩⟩⟩
  exact qq
noncomputable abbrev L3:Stmt:=top 19
theorem El:az ["found","due"] ["found","due"] (ah L3):=⟨rfl,rfl,rfl,by decide+kernel,rfl,by decide+kernel,by decide+kernel⟩
theorem Kd (G:Gs w K mg) (h_law_same:Has P w K mg base k "_law_same" ["found","due"] sq) (D:Def K mg "_law_same" L3 ["found","due"]):Has P w K mg base (k+1) "_law_same" ["found","due"] qu:=by
 refine D.has El (fun vs H Q E h=>?_) (fun f cdv A outer s H vs Q E hr h=>?_)
 ·obtain ⟨_,_,_,rfl,_,_,_,_,_⟩:=h
  rfl
 have nd:=El.nd
 have hu:=b7 hr
 have hu0:=Nat.lt_of_succ_lt hu
 obtain ⟨f1,d,xs,rfl,hF,hD,hx,hl,q⟩:=h
 have m_all:=G.m_all
 have m_bool:=G.m_bool
 have m_int:=G.m_int
 have m_isinstance:=G.m_isinstance
 have m_len:=G.m_len
 have m_list:=G.m_list
 have m_range:=G.m_range
 have m_str:=G.m_str
 have m_tuple:=G.m_tuple
 refine ⟨_,(A4 (AD (B6 (AA (C2 0) m_isinstance ak (A1 (A8 1) (A1 (AL (A1 (AK m_tuple bq) (A1 (AK m_list mj) (A2 0)))) (A2 0))))) (A4 (AD (BD (BY (AE (@Af _) (AA (AT 0) m_isinstance ak (A1 (A8 0) (A1 (AK m_tuple bq) (A2 0)))) (AA (AT 0) m_isinstance ak (A1 (A8 1) (A1 (AK m_tuple bq) (A2 0)))) (AB 0)) (BZ (BX (B6 (AA (C2 0) m_isinstance ak (A1 (A8 0) (A1 (AL (A1 (AK m_tuple bq) (A1 (AK m_list mj) (A2 0)))) (A2 0))))))))) (A6 (AC (BL 0))) (AN 0)) (A6 (AC (BB (BC (AJ 0) (AA (AV 0) m_len cm (A1 (A8 0) (A2 0))) (AA (AV 0) m_len cm (A1 (A8 1) (A2 0))) (AB 0)) (BE (AA (@gz _ rfl) m_all Ls (A1 (BR (BK ["k"] ["found","due"] [0,1] (And.intro rfl (And.intro rfl trivial)) (And.intro (And.intro rfl (And.intro rfl rfl)) (And.intro (And.intro rfl (And.intro rfl rfl)) trivial))) (BS m_range (A1 (AA (AV 0) m_len cm (A1 (A8 1) (A2 0))) (A2 0))) (fun _ _ _=>(B9 0 (show List.Nodup (["k","found","due"]:List Str) by decide+kernel))) (fun _ _ _=>(@pif0 _)) (fun _ _ _=>(AG h_law_same hr (A1 (A9 (@qw _ K rfl) (A8 1) (A0 0)) (A1 (A9 (@qw _ K rfl) (A8 2) (A0 0)) (A2 0)))))) (A2 0)))))))) (AN 0)) (A4 (AD (B6 (AA (AT 0) m_isinstance ak (A1 (A8 1) (A1 (AK m_str ky) (A2 0))))) (A6 (AC (BB (AA (AT 0) m_isinstance ak (A1 (A8 0) (A1 (AK m_str ky) (A2 0)))) (BE (BC (AJ 0) (A8 0) (A8 1) (AB 0)))))) (AN 0)) (A4 (AD (B6 (AA (AT 0) m_isinstance ak (A1 (A8 1) (A1 (AK m_bool iw) (A2 0))))) (A6 (AC (BB (AA (AT 0) m_isinstance ak (A1 (A8 0) (A1 (AK m_bool iw) (A2 0)))) (BE (BC (AJ 0) (A8 0) (A8 1) (AB 0)))))) (AN 0)) (A6 (AC (BB (AA (AT 0) m_isinstance ak (A1 (A8 0) (A1 (AK m_int ko) (A2 0)))) (BB (@yi _ _ _ _ (AA (AT 0) m_isinstance ak (A1 (A8 0) (A1 (AK m_bool iw) (A2 0))))) (BE (BC (AJ 0) (A8 0) (A8 1) (AB 0)))))))))),?_⟩
 rw [show start ["found","due"] [.ref f1,.ref d]=[some (.ref f1),some (.ref d)] from rfl]
 clear hu hu0 nd hr
 push_cast [qu]
 have sz:=sizeLine_eq
 refine ⟨by show (2:Nat)≤sizeLine;decide,fun p hp=>⟨_,_,ae,?_⟩⟩
 have s1:=aa hp (.tup [V.ty "tuple",V.ty "list"])
 refine ⟨_,.tup (s1 _ _ hD),true,rfl,wd ⟨_,.tup (s1 _ _ hF),true,rfl,_,.tup (s1 _ _ hD),true,rfl,rfl,qj ⟨by show (2:Nat)≤sizeLine;decide,fun p1 hp1=>⟨_,_,ae,?_⟩⟩⟩⟩
 have s2:=s1.trans (aa hp1 (.tup [V.ty "tuple",V.ty "list"]))
 generalize upd (upd H p (.tup [V.ty "tuple",V.ty "list"])) p1 (.tup [V.ty "tuple",V.ty "list"])=H2 at s2 ⊢
 refine ⟨_,.tup (s2 _ _ hF),true,rfl,qj ⟨xs,.inr (SqT.of (s2 _ _ hF)),xs,.inr (SqT.of (s2 _ _ hD)),rfl,?_⟩⟩
 rw [if_pos rfl]
 refine ⟨xs,.inr (SqT.of (s2 _ _ hD)),by omega,by omega,fun L hL=>?_⟩
 refine t5 (fun j ys=>ys=List.replicate j (V.bl true)) (by omega) hL rfl (fun j ys H1 G' K' hj hP hl2 hS hG hK=>?_) fun ys H3 hP hl2 hS hL2=>?_
 ·push_cast [sq]
  have hj':j < xs.length:=by omega
  have hat:atI xs (0+(j:Int))=some xs[j]:=by
   rw [show (0+(j:Int))=((j:Nat):Int) by omega]
   exact ax (List.getElem?_eq_getElem hj')
  exact br (hS _ _ (s2 _ _ hF)) hat (br (hS _ _ (s2 _ _ hD)) hat ⟨rfl,hx _ (List.getElem_mem hj'),fun H' s'=>hK _ _ s' (by rw [hP,←List.replicate_succ'])⟩)
 ·refine ⟨List.replicate ((xs.length:Nat):Int).toNat true,SqL.of (by rw [hL2,hP,List.map_replicate]),?_⟩
  rw [show (List.replicate ((xs.length:Nat):Int).toNat true).all id=true by simp]
  exact q _ (s2.trans hS)
noncomputable abbrev uh:Stmt:=top 19
theorem sf:az ["found","due"] ["found","due"] (ah uh):=⟨rfl,rfl,rfl,by decide+kernel,rfl,by decide+kernel,by decide+kernel⟩
theorem Jm (G:Gs w K mg) (h_law_same:Has P w K mg base k "_law_same" ["found","due"] qu) (D:Def K mg "_law_same" uh ["found","due"]):Has P w K mg base (k+1) "_law_same" ["found","due"] kb:=by
 refine D.has sf (fun vs H Q E h=>?_) (fun f cdv A outer s H vs Q E hr h=>?_)
 ·obtain ⟨_,_,_,_,_,rfl,_,_,_,_,_,_,_⟩:=h
  rfl
 have nd:=sf.nd
 have hu:=b7 hr
 have hu0:=Nat.lt_of_succ_lt hu
 obtain ⟨f1,d,as,bs,xs,rfl,hF,hD,ha,hb,hn,hx,q⟩:=h
 have m_all:=G.m_all
 have m_bool:=G.m_bool
 have m_int:=G.m_int
 have m_isinstance:=G.m_isinstance
 have m_len:=G.m_len
 have m_list:=G.m_list
 have m_range:=G.m_range
 have m_str:=G.m_str
 have m_tuple:=G.m_tuple
 refine ⟨_,(A4 (AD (B6 (AA (C2 0) m_isinstance ak (A1 (A8 1) (A1 (AL (A1 (AK m_tuple bq) (A1 (AK m_list mj) (A2 0)))) (A2 0))))) (A4 (AD (BD (BY (AE (@Af _) (AA (AT 0) m_isinstance ak (A1 (A8 0) (A1 (AK m_tuple bq) (A2 0)))) (AA (AT 0) m_isinstance ak (A1 (A8 1) (A1 (AK m_tuple bq) (A2 0)))) (AB 0)) (BZ (BX (B6 (AA (C2 0) m_isinstance ak (A1 (A8 0) (A1 (AL (A1 (AK m_tuple bq) (A1 (AK m_list mj) (A2 0)))) (A2 0))))))))) (A6 (AC (BL 0))) (AN 0)) (A6 (AC (BB (BC (AJ 0) (AA (AV 0) m_len cm (A1 (A8 0) (A2 0))) (AA (AV 0) m_len cm (A1 (A8 1) (A2 0))) (AB 0)) (BE (AA (@gz _ rfl) m_all Ls (A1 (BR (BK ["k"] ["found","due"] [0,1] (And.intro rfl (And.intro rfl trivial)) (And.intro (And.intro rfl (And.intro rfl rfl)) (And.intro (And.intro rfl (And.intro rfl rfl)) trivial))) (BS m_range (A1 (AA (AV 0) m_len cm (A1 (A8 1) (A2 0))) (A2 0))) (fun _ _ _=>(B9 0 (show List.Nodup (["k","found","due"]:List Str) by decide+kernel))) (fun _ _ _=>(@pif0 _)) (fun _ _ _=>(AG h_law_same hr (A1 (A9 (C0 K) (A8 1) (A0 0)) (A1 (A9 (C0 K) (A8 2) (A0 0)) (A2 0)))))) (A2 0)))))))) (AN 0)) (A4 (AD (B6 (AA (AT 0) m_isinstance ak (A1 (A8 1) (A1 (AK m_str ky) (A2 0))))) (A6 (AC (BB (AA (AT 0) m_isinstance ak (A1 (A8 0) (A1 (AK m_str ky) (A2 0)))) (BE (BC (AJ 0) (A8 0) (A8 1) (AB 0)))))) (AN 0)) (A4 (AD (B6 (AA (AT 0) m_isinstance ak (A1 (A8 1) (A1 (AK m_bool iw) (A2 0))))) (A6 (AC (BB (AA (AT 0) m_isinstance ak (A1 (A8 0) (A1 (AK m_bool iw) (A2 0)))) (BE (BC (AJ 0) (A8 0) (A8 1) (AB 0)))))) (AN 0)) (A6 (AC (BB (AA (AT 0) m_isinstance ak (A1 (A8 0) (A1 (AK m_int ko) (A2 0)))) (BB (@yi _ _ _ _ (AA (AT 0) m_isinstance ak (A1 (A8 0) (A1 (AK m_bool iw) (A2 0))))) (BE (BC (AJ 0) (A8 0) (A8 1) (AB 0)))))))))),?_⟩
 rw [show start ["found","due"] [.ref f1,.ref d]=[some (.ref f1),some (.ref d)] from rfl]
 clear hu hu0 nd hr
 push_cast [and_true]
 have sz:=sizeLine_eq
 refine ⟨by show (2:Nat)≤sizeLine;decide,fun p hp=>⟨_,_,ae,?_⟩⟩
 have s1:=aa hp (.tup [V.ty "tuple",V.ty "list"])
 refine ⟨_,.lst (s1 _ _ hD),true,rfl,wd ⟨_,.lst (s1 _ _ hF),false,rfl,_,.lst (s1 _ _ hD),false,rfl,rfl,qj ⟨by show (2:Nat)≤sizeLine;decide,fun p1 hp1=>⟨_,_,ae,?_⟩⟩⟩⟩
 have s2:=s1.trans (aa hp1 (.tup [V.ty "tuple",V.ty "list"]))
 generalize upd (upd H p (.tup [V.ty "tuple",V.ty "list"])) p1 (.tup [V.ty "tuple",V.ty "list"])=H2 at s2 ⊢
 refine ⟨_,.lst (s2 _ _ hF),true,rfl,qj ⟨_,.inl (SqL.of (s2 _ _ hF)),_,.inl (SqL.of (s2 _ _ hD)),rfl,?_⟩⟩
 rw [List.length_map,List.length_map,ha,hb,if_pos rfl]
 refine ⟨_,.inl (SqL.of (s2 _ _ hD)),by rw [List.length_map];omega,by rw [List.length_map];omega,fun L hL=>?_⟩
 rw [List.length_map,hb]
 refine t5 (fun j ys=>ys=List.replicate j (V.bl true)) (by omega) hL rfl (fun j ys H1 G' K' hj hP hl2 hS hG hK=>?_) fun ys H3 hP hl2 hS hL2=>?_
 ·push_cast [and_true]
  have hj':j < xs.length:=by omega
  obtain ⟨⟨a,b,ea,eb,h1,h2⟩,hw,hl⟩:=hx j _ (List.getElem?_eq_getElem hj')
  have at1:atI (as.map V.ref) (0+(j:Int))=some (.ref a):=by
   rw [show (0+(j:Int))=((j:Nat):Int) by omega]
   exact ax (by rw [List.getElem?_map,ea];rfl)
  have at2:atI (bs.map V.ref) (0+(j:Int))=some (.ref b):=by
   rw [show (0+(j:Int))=((j:Nat):Int) by omega]
   exact ax (by rw [List.getElem?_map,eb];rfl)
  exact aq (hS _ _ (s2 _ _ hF)) at1 (aq (hS _ _ (s2 _ _ hD)) at2 (M6 (hS _ _ (s2 _ _ h1)) (hS _ _ (s2 _ _ h2)) hw hl fun H' s'=>hK _ _ s' (by rw [hP,←List.replicate_succ'])))
 ·refine ⟨List.replicate ((xs.length:Nat):Int).toNat true,SqL.of (by rw [hL2,hP,List.map_replicate]),?_⟩
  rw [show (List.replicate ((xs.length:Nat):Int).toNat true).all id=true by simp]
  exact q _ (s2.trans hS)
noncomputable abbrev xj:Stmt:=uh
theorem scSame:az ["found","due"] ["found","due"] (ah xj):=sf
theorem Kb (D:Def K mg "_law_same" uh ["found","due"]):Has P w K mg base (k+1) "_law_same" ["found","due"] Eb:=D.has sf (fun vs H Q E h=>h.elim) (fun f cdv A outer s H vs Q E hr h=>h.elim)
theorem Nf (G:Gs w K mg) (D:Def K mg "_law_same" uh ["found","due"]):Has P w K mg base (k+4) "_law_same" ["found","due"] kb:=Jm (k:=k+3) G (Kd (k:=k+2) G (Lj (k:=k+1) G (Kb D) D) D) D
noncomputable abbrev xy:Stmt:=top 32
theorem scLaw:az ["script","deck","cell","names","book","words","fits","least","reaching","due","found"] ["script"] (ah xy):=⟨rfl,rfl,rfl,by decide+kernel,rfl,by decide+kernel,by decide+kernel⟩
theorem hasLaw {f:Addr} {fd:FuncData} (G:Gs w K mg) (h_law_book:Has P w K mg base k "_law_book" ["deck","names"] yp) (h_law_fits:Has P w K mg base k "_law_fits" ["book","words"] sr) (h_law_least:Has P w K mg base k "_law_least" ["fits"] oh) (h_law_names:Has P w K mg base k "_law_names" ["deck"] ni) (h_law_next:Has P w K mg base k "_law_next" ["deck"] iz) (h_law_reaching:Has P w K mg base k "_law_reaching" ["fits","least"] ou) (h_law_same:Has P w K mg base k "_law_same" ["found","due"] kb) (h_law_term:Has P w K mg base k "_law_term" ["deck","names","most"] sm) (h_prices:Has P w K mg base k "prices" ["book","words"] m8) (F:Fun K "law" "law" xy f fd):n8 P w K mg base CX0 (k+1) f fd ["script"] (Dv K):=by
 refine F.ok scLaw (fun vs H Q E h=>?_) (fun cdv A outer s H vs Q E hr h=>?_)
 ·obtain ⟨_,_,rfl,_,_,_⟩:=h
  rfl
 have nd:=scLaw.nd
 have hu:=b7 hr
 have hu0:=Nat.lt_of_succ_lt hu
 obtain ⟨a,ns,rfl,hA,hn,q⟩:=h
 have m_sorted:=G.m_sorted
 refine ⟨_,(A4 (A7 1 nd (AH (A1 (C7 (@sj _) (A0 0) (@ny _) (C8 (A3 0))) (A1 (A3 0) (A2 0))))) (A4 (A7 2 nd (AG h_law_next hr (A1 (A0 1) (A2 0)))) (A4 (A7 3 nd (AG h_law_names hr (A1 (A0 1) (A2 0)))) (A4 (A7 4 nd (AG h_law_book hr (A1 (A0 1) (A1 (A0 3) (A2 0))))) (A4 (A7 5 nd (AG h_law_term hr (A1 (A0 1) (A1 (A0 3) (A1 (A9 (AY 0) (AH (BF (BH (BH (BH (BH (BH (BH (BH (BH (BG 0))))))))))) (A5 (AF 0) (A0 2) (A3 0))) (A2 0)))))) (A4 (A7 6 nd (AG h_law_fits hr (A1 (A0 4) (A1 (A0 5) (A2 0))))) (A4 (C1 7 nd (AG h_law_least hr (A1 (A0 6) (A2 0)))) (A4 (C1 8 nd (AG h_law_reaching hr (A1 (A0 6) (A1 (A8 7) (A2 0))))) (A4 (@Ag _ _ _ _ _ _ _ _ _ _ _ _ _ _ _ 9 _ _ _ nd rfl (Or.inl rfl) (BK ["key"] ["least","reaching"] [7,8] (And.intro rfl (And.intro rfl trivial)) (And.intro (And.intro rfl (And.intro rfl rfl)) (And.intro (And.intro rfl (And.intro rfl rfl)) trivial))) rfl (BN (AA (@zm _ rfl) m_sorted Ab (A1 (A8 7) (A2 0)))) (fun _ _ _=>(B9 0 (show List.Nodup (["key","least","reaching"]:List Str) by decide+kernel))) (fun _ _ _=>(@pif0 _)) (fun _ _ _=>(A5 (@E1 _) (A0 0) (AL (A1 (BI hu (A8 1) (A0 0)) (A1 (A9 (C0 K) (BI hu (A8 2) (A0 0)) (A3 0)) (A2 0)))))) rfl (by intro _;rfl) (.inl rfl)) (A4 (A7 10 nd (AG h_prices hr (A1 (A0 4) (A1 (A0 5) (A2 0))))) (A4 (AD (BX (B6 (AG h_law_same hr (A1 (A0 10) (A1 (A0 9) (A2 0)))))) (A6 (AC (BL 0))) (AN 0)) (A4 (AQ (C6 PySem.F.plainAttrs_list PySem.F.slot_list_reverse PySem.F.type_list_reverse (@Dn _) (A0 10))) (A4 (AQ (AS PySem.F.plainAttrs_list PySem.F.slot_list_append PySem.F.type_list_append (AX 0) (A0 10) (A1 (A3 0) (A2 0)))) (A6 (AC (AG h_law_same hr (A1 (AG h_prices hr (A1 (A0 4) (A1 (A0 5) (A2 0)))) (A1 (A0 9) (A2 0))))))))))))))))))),?_⟩
 rw [show start ["script","deck","cell","names","book","words","fits","least","reaching","due","found"] [.ref a]=[some (.ref a),none,none,none,none,none,none,none,none,none,none] from rfl]
 clear hu hu0 nd hr
 push_cast [iz,ox]
 have sz:=sizeLine_eq
 obtain ⟨ms,em,hms⟩:=Ir ns none (some 200)
 refine ⟨ns.map V.int,hA,fun p hp=>?_⟩
 rw [em]
 refine ⟨by show (2:Nat)≤sizeLine;decide,fun d hd=>⟨p,ms,0,⟨ae,aa hd _ _ _ ae⟩,by decide,fun c H1 s1 d1=>?_⟩⟩
 have D1:fk H1 d p ms 1:=fk.next ⟨ae,aa hd _ _ _ ae⟩ s1 d1
 refine Lr D1 (by omega) fun nl H2 zs s2 d2 N2=>?_
 have D2:fk H2 d p ms 2:=D1.next s2 d2
 refine mkBook D2 N2 (by omega) fun bt n3 H3 kinds rs s3 d3 hn3 B3 bk hrs=>?_
 have D3:=D2.next s3 d3
 have N3:=N2.ku D2 s3
 refine ⟨by show (8:Nat)≤sizeLine;decide,fun p4 hp4=>?_⟩
 obtain ⟨m,hm1,hm2,hat⟩:∃m:Nat,1≤m∧m≤120∧atI [V.int 3,V.int 15,V.int 40,V.int 15,V.int 40,V.int 3,V.int 15,V.int 120] (c % 8)=some (.int (m:Int)):=by
  rcases (show c % 8=((0:Nat):Int)∨c % 8=((1:Nat):Int)∨c % 8=((2:Nat):Int)∨c % 8=((3:Nat):Int)∨c % 8=((4:Nat):Int)∨c % 8=((5:Nat):Int)∨c % 8=((6:Nat):Int)∨c % 8=((7:Nat):Int) by omega) with e | e | e | e | e | e | e | e
  ·rw [e]
   exact ⟨3,by decide,by decide,ax rfl⟩
  ·rw [e]
   exact ⟨15,by decide,by decide,ax rfl⟩
  ·rw [e]
   exact ⟨40,by decide,by decide,ax rfl⟩
  ·rw [e]
   exact ⟨15,by decide,by decide,ax rfl⟩
  ·rw [e]
   exact ⟨40,by decide,by decide,ax rfl⟩
  ·rw [e]
   exact ⟨3,by decide,by decide,ax rfl⟩
  ·rw [e]
   exact ⟨15,by decide,by decide,ax rfl⟩
  ·rw [e]
   exact ⟨120,by decide,by decide,ax rfl⟩
 have q4:=aa hp4 (.lst [V.int 3,V.int 15,V.int 40,V.int 15,V.int 40,V.int 3,V.int 15,V.int 120])
 refine aq ae hat (Oe (D3.same q4) (N3.same q4) hm1 hm2 (by omega) fun t n5 H5 ws s5 d5 hn5 ht h5 tw hwl=>?_)
 have B5:=(B3.same q4).keep (j8 (D3.same q4) s5)
 have D5:=(D3.same q4).next s5 d5
 clear hd hp4 q4 s1 s2 s3 s5 D1 D2 D3 N2 N3 d1 d2 d3
 have twl:=tw.len
 refine My B5 h5 bk tw fun fl as H6 s6 hfl f6 F6=>?_
 have fl6:(pz kinds rs ws).length≤100000:=Nat.le_trans (ud kinds rs ws bk.len ws.length) (by omega)
 have F6':=F6.weak (no':=fun _=>False) fun _ z=>z.elim
 refine Li f6 F6' (by omega) (lf_own bk) fun ld H7 g ks s7 hld T7 T hkl=>?_
 have TT:Tbl (qm kinds rs ws) g:=T.of_mem (lf_mem kinds rs ws)
 refine Lw (s7 _ _ f6) (F6'.same s7) (by omega) T7 (by omega) T fun rd lx H8 s8 hrd R8=>?_
 have T8:=T7.same s8
 have hm:=T8.mem
 have S8:=s6.trans (s7.trans s8)
 obtain ⟨kvs,k1,k2,nd,k4⟩:=id T8
 have kl:kvs.length=ks.length:=by
  have:=congrArg List.length k2
  rw [List.length_map,List.length_map] at this
  exact this
 refine ⟨ld,rfl,kvs,k1,by omega,fun ts tl hts=>?_⟩
 have key:∀i,i < ks.length→H8 (ts.getD i 0)=some (kyT (ks.getD i (0,""))):=fun i hi=>TbK.keys (d:=ld) (g:=g) k2 hts hi
 have gk:∀i,i < ks.length→(ks.map kyI).getD i (0,"")=kyI (ks.getD i (0,"")):=fun i hi=>getD_map kyI ks i (0,"") (0,"") hi
 refine ⟨_,Ot (ks:=ks.map kyI) (d:=(0,"")) (by rw [List.length_map];omega) (fun i hi=>?_),fun i j hi hj e=>Hl ?_,fun l is hp hs hl=>?_⟩
 ·rw [List.length_map] at hi
  rw [gk i hi]
  exact key i hi
 ·have h1:=key i (by omega)
  have h2:=key j (by omega)
  rw [e,h2] at h1
  rw [gk i (by omega),gk j (by omega)]
  have h1:=Option.some.inj h1
  unfold kyT at h1
  simp only [HO.tup.injEq,List.cons.injEq,V.int.injEq,V.str.injEq,and_true] at h1
  unfold kyI
  rw [h1.1,h1.2]
 have hp':is.Perm (List.range ks.length):=by rw [←kl,←tl];exact hp
 have hs':∀i j,i≤j→j < ks.length→rank ks.length (fun i j=>ltK ((ks.map kyI).getD i (0,"")) ((ks.map kyI).getD j (0,""))) (is.getD i 0)≤rank ks.length (fun i j=>ltK ((ks.map kyI).getD i (0,"")) ((ks.map kyI).getD j (0,""))) (is.getD j 0):=fun i j hij hj=>by
  have:=hs i j hij (by omega)
  rw [List.length_map] at this
  exact this
 have kr:=He bk TT nd hm hp' hs'
 have hil:is.length=(rowsOf kinds rs ws g).length:=by
  have:=congrArg List.length kr
  rw [List.length_map,List.length_map] at this
  exact this
 have rl:=uo (g:=g) bk tw
 have a9:=aa hl (.lst (is.map fun i=>V.ref (ts.getD i 0)))
 have b9:upd H8 l (.lst (is.map fun i=>V.ref (ts.getD i 0))) l=some (.lst (is.map fun i=>V.ref (ts.getD i 0))):=ae
 generalize upd H8 l (.lst (is.map fun i=>V.ref (ts.getD i 0)))=H9 at a9 b9 ⊢
 refine ⟨⟨_,SqL.of b9⟩,fun D hD=>Jd (xs:=is.map fun i=>V.ref (ts.getD i 0)) (fun i ys H'=>∃cs:List Addr,ys=cs.map V.ref∧jl H' cs ((rowsOf kinds rs ws g).take i)) (fun i ys H' H'' tk h=>by obtain ⟨cs,h1,h2⟩:=h;exact ⟨cs,h1,h2.tk tk⟩) (SqL.of b9) (by rw [List.length_map];omega) hD ⟨[],rfl,rfl,fun j r h=>by simp at h⟩ (fun i x ys HA G' K' hx hP hl2 hS' hG hK'=>?_) fun ys HA hP hl2 hS' hD2=>?_⟩
 ·rw [List.getElem?_map] at hx
  obtain ⟨u,hu,rfl⟩:=Option.map_eq_some_iff.mp hx
  have hir:i < (rowsOf kinds rs ws g).length:=by rw [←hil];exact (List.getElem?_eq_some_iff.mp hu).1
  have hri:(rowsOf kinds rs ws g)[i]?=some (rowsOf kinds rs ws g)[i]:=List.getElem?_eq_getElem hir
  have hku:ks.getD u (0,"")=jj (rowsOf kinds rs ws g)[i]:=by
   have:=congrArg (fun l=>l[i]?) kr
   simp only [List.getElem?_map,hu,hri,Option.map_some] at this
   exact Option.some.inj this
  generalize (rowsOf kinds rs ws g)[i]=ro at hri hku
  have hrm:=List.mem_of_getElem? hri
  obtain ⟨m1,m2,m3⟩:=t8 hrm
  obtain ⟨nm,n1,n2⟩:=zq TT hrm
  have hul:u < ks.length:=List.mem_range.mp (hp'.mem_iff.mp (List.mem_of_getElem? hu))
  have SA:=a9.trans hS'
  have kA:=SA _ _ (key u hul)
  rw [hku] at kA
  obtain ⟨cs,rfl,hc⟩:=hP
  push_cast [and_true]
  have TA:=T8.same SA
  obtain ⟨j,lj,hj,hlj,hG1,hL1⟩:=(R8.same SA).get nd kA ((hm _).mpr (by show (g (ro.place,ro.kind)).isSome=true;rw [m2];rfl))
  refine ⟨_,TA.tb.val kA m2,_,hG1,aq (v:=.str nm) hL1 (ax (j:=0) (by rw [List.getElem?_map,←List.head?_eq_getElem?,n2];rfl)) ⟨by show (2:Nat)≤sizeLine;decide,fun p2 hp2=>?_⟩⟩
  have sB:=aa hp2 (.tup [V.int ro.price,V.str nm])
  refine Bo (sB _ _ kA) ae (by show (4:Nat)≤sizeLine;decide) fun pc HC sC hC=>?_
  refine hK' _ _ (sB.trans sC) ⟨cs++[pc],by rw [List.map_append];rfl,?_⟩
  rw [List.take_add_one,hri]
  exact (hc.same (sB.trans sC)).snoc n1 hC
 ·obtain ⟨cs,rfl,hc⟩:=hP
  rw [List.length_map,List.take_of_length_le (by omega)] at hc
  have SA:=S8.trans (a9.trans hS')
  have BA:=B5.same SA
  have wA:=SA _ _ h5
  refine Az BA wA bk tw fun fd bs HB g2 sB hfd hB T2 R4=>?_
  obtain rfl:g=g2:=TT.eq T2 (An bk)
  have hcB:=hc.same sB
  have dB:=sB _ _ hD2
  have fin:∀{H':Hp},(as':List Addr)→(f':Addr)→H' f'=some (.lst (as'.map V.ref))→H' D=some (.lst (cs.map V.ref))→jl H' as' (rowsOf kinds rs ws g)→jl H' cs (rowsOf kinds rs ws g)→∀Q',(∀H'',ao H' H''→Q' (.bl true) H'')→kb [.ref f',.ref D] H' Q' E0:=fun as' f' h1 h2 t1 t2 Q' hQ=>N4 (xs:=(rowsOf kinds rs ws g).map rw4) h1 h2 (by rw [List.length_map];exact t1.1) (by rw [List.length_map];exact t2.1) (by rw [List.length_map];omega) (t1.twice t2) hQ
  refine fin bs fd hB dB R4 hcB _ fun HC sC=>?_
  push_cast [and_true]
  have hC:=sC _ _ hB
  have nDf:D≠fd:=ag hD2 hfd
  have t13:∀{a:Addr} {xs:List V} {o1:HO},HC a=some (.tup xs)→upd HC fd o1 a=some (.tup xs):=fun h=>by rw [af (ee h hC (by intro z;cases z))];exact h
  refine ⟨av hC,fd,_,rfl,rfl,hC,av ae,fd,_,_,rfl,rfl,ae,by rw [List.length_reverse,List.length_map];have:=R4.1;omega,?_⟩
  have t14:∀{a:Addr} {xs:List V} {o1 o2:HO},HC a=some (.tup xs)→upd (upd HC fd o1) fd o2 a=some (.tup xs):=fun h=>by rw [af (ee h hC (by intro z;cases z))];exact t13 h
  have SC:=sB.trans sC
  refine Az ((BA.same SC).keep t14) (t14 (SC _ _ wA)) bk tw fun fd2 bs2 HE g3 sE hfd2 hE T3 R5=>?_
  obtain rfl:g=g3:=TT.eq T3 (An bk)
  refine fin bs2 fd2 hE (sE _ _ (by rw [af nDf,af nDf];exact sC _ _ dB)) R5 (((hcB.same sC).tk fun a xs h=>t14 h).same sE) _ fun HF _=>q HF
end
end K42
namespace K42
open PySem PySem.Spec L2 PyProof.Rows Pc
theorem all_mk {l:PySem.W.OpenLaw} {w:World} {K:PySem.W.Frag} {h:Heap} {mg:Str→Option Value} {fa:Addr} (X:K.In h) (G:h.Ns mainGlobals mg) (hfa:mg "law"=some (.ref fa))
  {f0 f1 f2 f3 f4 f5 f6 f7 f8 f9 f10 f11 f12 f13 f14 f15 f16 f17 f18 f19 f20 f21 f22 f23 f24 f25 f26 f27 g0:Addr} {od0 an0 od1 an1 od2 an2 od3 an3 od4 an4 od5 an5 od6 an6 od7 an7 od8 an8 od9 an9 od10 an10 od11 an11 od12 an12 od13 an13 od14 an14 od15 an15 od16 an16 od17 an17 od18 an18 od19 an19 od20 an20 od21 an21 od22 an22 od23 an23 od24 an24 od25 an25 od26 an26 od27 an27:Option Addr} {sl0 sl1 sl2 sl3 sl4 sl5 sl6 sl7 sl8 sl9 sl10 sl11 sl12 sl13 sl14 sl15 sl16 sl17 sl18 sl19 sl20 sl21 sl22 sl23 sl24 sl25 sl26 sl27:Array (Option Value)} {oc0 kV0 dc0 pm0 cd0 ct0 oc1 kV1 dc1 pm1 cd1 ct1 oc2 kV2 dc2 pm2 cd2 ct2 oc3 kV3 dc3 pm3 cd3 ct3 oc4 kV4 dc4 pm4 cd4 ct4 oc5 kV5 dc5 pm5 cd5 ct5 oc6 kV6 dc6 pm6 cd6 ct6 oc7 kV7 dc7 pm7 cd7 ct7 oc8 kV8 dc8 pm8 cd8 ct8 oc9 kV9 dc9 pm9 cd9 ct9 oc10 kV10 dc10 pm10 cd10 ct10 oc11 kV11 dc11 pm11 cd11 ct11 oc12 kV12 dc12 pm12 cd12 ct12 oc13 kV13 dc13 pm13 cd13 ct13 oc14 kV14 dc14 pm14 cd14 ct14 oc15 kV15 dc15 pm15 cd15 ct15 oc16 kV16 dc16 pm16 cd16 ct16 oc17 kV17 dc17 pm17 cd17 ct17 oc18 kV18 dc18 pm18 cd18 ct18 oc19 kV19 dc19 pm19 cd19 ct19 oc20 kV20 dc20 pm20 cd20 ct20 oc21 kV21 dc21 pm21 cd21 ct21 oc22 kV22 dc22 pm22 cd22 ct22 oc23 kV23 dc23 pm23 cd23 ct23 oc24 kV24 dc24 pm24 cd24 ct24 oc25 kV25 dc25 pm25 cd25 ct25 oc26 kV26 dc26 pm26 cd26 ct26 oc27 kV27 dc27 pm27 cd27 ct27:Value} {dt0x0 dt0x1 dt0x2 dt0x3 du0x0 du0x1 du0x2 du0x3 dp0:Nat} {dh0x0 dh0x1 dh0x2 dh0x3:Int}
  (a0:PySem.W.nsIn K mainGlobals "how_many_below"=some (some (.ref f0)))
  (l0:K.lookup f0=some ⟨oc0,od0,.func (PySem.W.fnOf "how_many_below" "how_many_below" (bb Dd) (ay Dd) (ah Dd) .none kV0 dc0 pm0 an0 cd0 ct0),sl0⟩)
  (c0:PySem.W.codeIn K cd0 "how_many_below"=true)
  (k0:PySem.W.keepIn K (.ref f0)=true)
  (a1:PySem.W.nsIn K mainGlobals "place_behind"=some (some (.ref f1)))
  (l1:K.lookup f1=some ⟨oc1,od1,.func (PySem.W.fnOf "place_behind" "place_behind" (bb ja) (ay ja) (ah ja) .none kV1 dc1 pm1 an1 cd1 ct1),sl1⟩)
  (c1:PySem.W.codeIn K cd1 "place_behind"=true)
  (k1:PySem.W.keepIn K (.ref f1)=true)
  (a2:PySem.W.nsIn K mainGlobals "leaf_letter"=some (some (.ref f2)))
  (l2:K.lookup f2=some ⟨oc2,od2,.func (PySem.W.fnOf "leaf_letter" "leaf_letter" (bb um) (ay um) (ah um) .none kV2 dc2 pm2 an2 cd2 ct2),sl2⟩)
  (c2:PySem.W.codeIn K cd2 "leaf_letter"=true)
  (k2:PySem.W.keepIn K (.ref f2)=true)
  (a3:PySem.W.nsIn K mainGlobals "lies_upon"=some (some (.ref f3)))
  (l3:K.lookup f3=some ⟨oc3,od3,.func (PySem.W.fnOf "lies_upon" "lies_upon" (bb vw) (ay vw) (ah vw) .none kV3 dc3 pm3 an3 cd3 ct3),sl3⟩)
  (c3:PySem.W.codeIn K cd3 "lies_upon"=true)
  (k3:PySem.W.keepIn K (.ref f3)=true)
  (a4:PySem.W.nsIn K mainGlobals "laid"=some (some (.ref f4)))
  (l4:K.lookup f4=some ⟨oc4,od4,.func (PySem.W.fnOf "laid" "laid" (bb uu) (ay uu) (ah uu) .none kV4 dc4 pm4 an4 cd4 ct4),sl4⟩)
  (c4:PySem.W.codeIn K cd4 "laid"=true)
  (k4:PySem.W.keepIn K (.ref f4)=true)
  (a5:PySem.W.nsIn K mainGlobals "holes_under"=some (some (.ref f5)))
  (l5:K.lookup f5=some ⟨oc5,od5,.func (PySem.W.fnOf "holes_under" "holes_under" (bb ji) (ay ji) (ah ji) .none kV5 dc5 pm5 an5 cd5 ct5),sl5⟩)
  (c5:PySem.W.codeIn K cd5 "holes_under"=true)
  (k5:PySem.W.keepIn K (.ref f5)=true)
  (a6:PySem.W.nsIn K mainGlobals "fitting_rules"=some (some (.ref f6)))
  (l6:K.lookup f6=some ⟨oc6,od6,.func (PySem.W.fnOf "fitting_rules" "fitting_rules" (bb gm) (ay gm) (ah gm) .none kV6 dc6 pm6 an6 cd6 ct6),sl6⟩)
  (c6:PySem.W.codeIn K cd6 "fitting_rules"=true)
  (k6:PySem.W.keepIn K (.ref f6)=true)
  (a7:PySem.W.nsIn K mainGlobals "price_there"=some (some (.ref f7)))
  (l7:K.lookup f7=some ⟨oc7,od7,.func (PySem.W.fnOf "price_there" "price_there" (bb mw) (ay mw) (ah mw) .none kV7 dc7 pm7 an7 cd7 ct7),sl7⟩)
  (c7:PySem.W.codeIn K cd7 "price_there"=true)
  (k7:PySem.W.keepIn K (.ref f7)=true)
  (a8:PySem.W.nsIn K mainGlobals "settle_part"=some (some (.ref f8)))
  (l8:K.lookup f8=some ⟨oc8,od8,.func (PySem.W.fnOf "settle_part" "settle_part" (bb i5) (ay i5) (ah i5) .none kV8 dc8 pm8 an8 cd8 ct8),sl8⟩)
  (c8:PySem.W.codeIn K cd8 "settle_part"=true)
  (k8:PySem.W.keepIn K (.ref f8)=true)
  (a9:PySem.W.nsIn K mainGlobals "rules_with_price"=some (some (.ref f9)))
  (l9:K.lookup f9=some ⟨oc9,od9,.func (PySem.W.fnOf "rules_with_price" "rules_with_price" (bb uc) (ay uc) (ah uc) .none kV9 dc9 pm9 an9 cd9 ct9),sl9⟩)
  (c9:PySem.W.codeIn K cd9 "rules_with_price"=true)
  (k9:PySem.W.keepIn K (.ref f9)=true)
  (a10:PySem.W.nsIn K mainGlobals "rows_of_part"=some (some (.ref f10)))
  (l10:K.lookup f10=some ⟨oc10,od10,.func (PySem.W.fnOf "rows_of_part" "rows_of_part" (bb mh) (ay mh) (ah mh) .none kV10 dc10 pm10 an10 cd10 ct10),sl10⟩)
  (c10:PySem.W.codeIn K cd10 "rows_of_part"=true)
  (k10:PySem.W.keepIn K (.ref f10)=true)
  (a11:PySem.W.nsIn K mainGlobals "rows_with_all_rules"=some (some (.ref f11)))
  (l11:K.lookup f11=some ⟨oc11,od11,.func (PySem.W.fnOf "rows_with_all_rules" "rows_with_all_rules" (bb ml) (ay ml) (ah ml) .none kV11 dc11 pm11 an11 cd11 ct11),sl11⟩)
  (c11:PySem.W.codeIn K cd11 "rows_with_all_rules"=true)
  (k11:PySem.W.keepIn K (.ref f11)=true)
  (a12:PySem.W.nsIn K mainGlobals "prices"=some (some (.ref f12)))
  (l12:K.lookup f12=some ⟨oc12,od12,.func (PySem.W.fnOf "prices" "prices" (bb i9) (ay i9) (ah i9) .none kV12 dc12 pm12 an12 cd12 ct12),sl12⟩)
  (c12:PySem.W.codeIn K cd12 "prices"=true)
  (k12:PySem.W.keepIn K (.ref f12)=true)
  (a13:PySem.W.nsIn K mainGlobals "_law_next"=some (some (.ref f13)))
  (l13:K.lookup f13=some ⟨oc13,od13,.func (PySem.W.fnOf "_law_next" "_law_next" (bb t6) (ay t6) (ah t6) .none kV13 dc13 pm13 an13 cd13 ct13),sl13⟩)
  (c13:PySem.W.codeIn K cd13 "_law_next"=true)
  (k13:PySem.W.keepIn K (.ref f13)=true)
  (a14:PySem.W.nsIn K mainGlobals "_law_ends"=some (some (.ref f14)))
  (l14:K.lookup f14=some ⟨oc14,od14,.func (PySem.W.fnOf "_law_ends" "_law_ends" (bb uf) (ay uf) (ah uf) .none kV14 dc14 pm14 an14 cd14 ct14),sl14⟩)
  (c14:PySem.W.codeIn K cd14 "_law_ends"=true)
  (k14:PySem.W.keepIn K (.ref f14)=true)
  (a15:PySem.W.nsIn K mainGlobals "_law_laid"=some (some (.ref f15)))
  (l15:K.lookup f15=some ⟨oc15,od15,.func (PySem.W.fnOf "_law_laid" "_law_laid" (bb lu) (ay lu) (ah lu) .none kV15 dc15 pm15 an15 cd15 ct15),sl15⟩)
  (c15:PySem.W.codeIn K cd15 "_law_laid"=true)
  (k15:PySem.W.keepIn K (.ref f15)=true)
  (a16:PySem.W.nsIn K mainGlobals "_law_term"=some (some (.ref f16)))
  (l16:K.lookup f16=some ⟨oc16,od16,.func (PySem.W.fnOf "_law_term" "_law_term" (bb vt) (ay vt) (ah vt) .none kV16 dc16 pm16 an16 cd16 ct16),sl16⟩)
  (c16:PySem.W.codeIn K cd16 "_law_term"=true)
  (k16:PySem.W.keepIn K (.ref f16)=true)
  (a17:PySem.W.nsIn K mainGlobals "_law_shape"=some (some (.ref f17)))
  (l17:K.lookup f17=some ⟨oc17,od17,.func (PySem.W.fnOf "_law_shape" "_law_shape" (bb mq) (ay mq) (ah mq) .none kV17 dc17 pm17 an17 cd17 ct17),sl17⟩)
  (c17:PySem.W.codeIn K cd17 "_law_shape"=true)
  (k17:PySem.W.keepIn K (.ref f17)=true)
  (a18:PySem.W.nsIn K mainGlobals "_law_deeds"=some (some (.ref f18)))
  (l18:K.lookup f18=some ⟨oc18,od18,.func (PySem.W.fnOf "_law_deeds" "_law_deeds" (bb lg) (ay lg) (ah lg) .none kV18 dc18 pm18 an18 cd18 ct18),sl18⟩)
  (c18:PySem.W.codeIn K cd18 "_law_deeds"=true)
  (k18:PySem.W.keepIn K (.ref f18)=true)
  (a19:PySem.W.nsIn K mainGlobals "_law_book"=some (some (.ref f19)))
  (l19:K.lookup f19=some ⟨oc19,od19,.func (PySem.W.fnOf "_law_book" "_law_book" (bb tq) (ay tq) (ah tq) .none kV19 dc19 pm19 an19 cd19 ct19),sl19⟩)
  (c19:PySem.W.codeIn K cd19 "_law_book"=true)
  (k19:PySem.W.keepIn K (.ref f19)=true)
  (a20:PySem.W.nsIn K mainGlobals "_law_names"=some (some (.ref f20)))
  (l20:K.lookup f20=some ⟨oc20,od20,.func (PySem.W.fnOf "_law_names" "_law_names" (bb mx) (ay mx) (ah mx) .none kV20 dc20 pm20 an20 cd20 ct20),sl20⟩)
  (c20:PySem.W.codeIn K cd20 "_law_names"=true)
  (k20:PySem.W.keepIn K (.ref f20)=true)
  (a21:PySem.W.nsIn K mainGlobals "_law_holes"=some (some (.ref f21)))
  (l21:K.lookup f21=some ⟨oc21,od21,.func (PySem.W.fnOf "_law_holes" "_law_holes" (bb ir) (ay ir) (ah ir) .none kV21 dc21 pm21 an21 cd21 ct21),sl21⟩)
  (c21:PySem.W.codeIn K cd21 "_law_holes"=true)
  (k21:PySem.W.keepIn K (.ref f21)=true)
  (a22:PySem.W.nsIn K mainGlobals "_law_fits"=some (some (.ref f22)))
  (l22:K.lookup f22=some ⟨oc22,od22,.func (PySem.W.fnOf "_law_fits" "_law_fits" (bb lz) (ay lz) (ah lz) .none kV22 dc22 pm22 an22 cd22 ct22),sl22⟩)
  (c22:PySem.W.codeIn K cd22 "_law_fits"=true)
  (k22:PySem.W.keepIn K (.ref f22)=true)
  (a23:PySem.W.nsIn K mainGlobals "_law_cost"=some (some (.ref f23)))
  (l23:K.lookup f23=some ⟨oc23,od23,.func (PySem.W.fnOf "_law_cost" "_law_cost" (bb ma) (ay ma) (ah ma) .none kV23 dc23 pm23 an23 cd23 ct23),sl23⟩)
  (c23:PySem.W.codeIn K cd23 "_law_cost"=true)
  (k23:PySem.W.keepIn K (.ref f23)=true)
  (a24:PySem.W.nsIn K mainGlobals "_law_least"=some (some (.ref f24)))
  (l24:K.lookup f24=some ⟨oc24,od24,.func (PySem.W.fnOf "_law_least" "_law_least" (bb jf) (ay jf) (ah jf) .none kV24 dc24 pm24 an24 cd24 ct24),sl24⟩)
  (c24:PySem.W.codeIn K cd24 "_law_least"=true)
  (k24:PySem.W.keepIn K (.ref f24)=true)
  (a25:PySem.W.nsIn K mainGlobals "_law_reaching"=some (some (.ref f25)))
  (l25:K.lookup f25=some ⟨oc25,od25,.func (PySem.W.fnOf "_law_reaching" "_law_reaching" (bb jh) (ay jh) (ah jh) .none kV25 dc25 pm25 an25 cd25 ct25),sl25⟩)
  (c25:PySem.W.codeIn K cd25 "_law_reaching"=true)
  (k25:PySem.W.keepIn K (.ref f25)=true)
  (a26:PySem.W.nsIn K mainGlobals "_law_same"=some (some (.ref f26)))
  (l26:K.lookup f26=some ⟨oc26,od26,.func (PySem.W.fnOf "_law_same" "_law_same" (bb xj) (ay xj) (ah xj) .none kV26 dc26 pm26 an26 cd26 ct26),sl26⟩)
  (c26:PySem.W.codeIn K cd26 "_law_same"=true)
  (k26:PySem.W.keepIn K (.ref f26)=true)
  (a27:PySem.W.nsIn K mainGlobals "law"=some (some (.ref f27)))
  (l27:K.lookup f27=some ⟨oc27,od27,.func (PySem.W.fnOf "law" "law" (bb xy) (ay xy) (ah xy) .none kV27 dc27 pm27 an27 cd27 ct27),sl27⟩)
  (c27:PySem.W.codeIn K cd27 "law"=true)
  (k27:PySem.W.keepIn K (.ref f27)=true)
  (z0:PySem.W.nsIn K mainGlobals "all"=some none)
  (z1:PySem.W.nsIn K mainGlobals "bool"=some none)
  (z2:PySem.W.nsIn K mainGlobals "dict"=some none)
  (z3:PySem.W.nsIn K mainGlobals "int"=some none)
  (z4:PySem.W.nsIn K mainGlobals "isinstance"=some none)
  (z5:PySem.W.nsIn K mainGlobals "len"=some none)
  (z6:PySem.W.nsIn K mainGlobals "list"=some none)
  (z7:PySem.W.nsIn K mainGlobals "range"=some none)
  (z8:PySem.W.nsIn K mainGlobals "reversed"=some none)
  (z9:PySem.W.nsIn K mainGlobals "sorted"=some none)
  (z10:PySem.W.nsIn K mainGlobals "str"=some none)
  (z11:PySem.W.nsIn K mainGlobals "tuple"=some none)
  (z12:PySem.W.nsIn K mainGlobals "zip"=some none)
  (y0:PySem.W.nsIn K mainGlobals "PARTS_BELOW"=some (some (.ref g0)))
  (x0:K.lookup g0=some ⟨.type "dict",none,.dict #[⟨dh0x0,.str "add" dt0x0,.int 2 du0x0⟩,⟨dh0x1,.str "sub" dt0x1,.int 2 du0x1⟩,⟨dh0x2,.str "mul" dt0x2,.int 2 du0x2⟩,⟨dh0x3,.str "neg" dt0x3,.int 1 du0x3⟩] dp0,#[]⟩)
  (hh0x0:dh0x0=hashStr w "add")
  (hh0x1:dh0x1=hashStr w "sub")
  (hh0x2:dh0x2=hashStr w "mul")
  (hh0x3:dh0x3=hashStr w "neg")
  (ha0:(g0==sysModules)=false):
  ∃fd:FuncData,(∀(s:Shared) (v:Value),BindsTo s fd ⟨[v],[]⟩ [("script",v)])∧∀base:Heap,K.In base→base.Ns mainGlobals mg→n8 l.prog w K mg base CX0 7 fa fd ["script"] (Dv K):=by
 have e:=hfa.symm.trans (PySem.W.mg_of X G a27)
 cases e
 have G0:Gs w K mg:=⟨PySem.W.mg_none_of X G z0,PySem.W.mg_none_of X G z1,PySem.W.mg_none_of X G z2,PySem.W.mg_none_of X G z3,PySem.W.mg_none_of X G z4,PySem.W.mg_none_of X G z5,PySem.W.mg_none_of X G z6,PySem.W.mg_none_of X G z7,PySem.W.mg_none_of X G z8,PySem.W.mg_none_of X G z9,PySem.W.mg_none_of X G z10,PySem.W.mg_none_of X G z11,PySem.W.mg_none_of X G z12,⟨g0,PySem.W.mg_of X G y0,N0 [(dh0x0,"add",dt0x0,2,du0x0),(dh0x1,"sub",dt0x1,2,du0x1),(dh0x2,"mul",dt0x2,2,du0x2),(dh0x3,"neg",dt0x3,1,du0x3)] x0 ha0 (by intro e he;simp only [List.mem_cons,List.not_mem_nil,or_false] at he;rcases he with rfl | rfl | rfl | rfl <;> assumption) (by show List.Nodup ([Sum.inr "add",Sum.inr "sub",Sum.inr "mul",Sum.inr "neg"]:List Key);decide+kernel)⟩⟩
 have F0:=bw (st:=Dd) l0 c0 k0
 have D0:Def K mg "how_many_below" Dd ["word"]:=⟨f0,_,F0,F0.binds (ps:=["word"]) (fun _ _ _ _ _ _ us hl=>by refine us1 (P:=fun us=>bindArgs _ ⟨us,[]⟩=pure (List.zip _ us)) hl ?_;intros;rfl),PySem.W.mg_of X G a0⟩
 have F1:=bw (st:=ja) l1 c1 k1
 have D1:Def K mg "place_behind" ja ["words","place"]:=⟨f1,_,F1,F1.binds (ps:=["words","place"]) (fun _ _ _ _ _ _ us hl=>by refine us2 (P:=fun us=>bindArgs _ ⟨us,[]⟩=pure (List.zip _ us)) hl ?_;intros;rfl),PySem.W.mg_of X G a1⟩
 have F2:=bw (st:=um) l2 c2 k2
 have D2:Def K mg "leaf_letter" um ["word","kinds"]:=⟨f2,_,F2,F2.binds (ps:=["word","kinds"]) (fun _ _ _ _ _ _ us hl=>by refine us2 (P:=fun us=>bindArgs _ ⟨us,[]⟩=pure (List.zip _ us)) hl ?_;intros;rfl),PySem.W.mg_of X G a2⟩
 have F3:=bw (st:=vw) l3 c3 k3
 have D3:Def K mg "lies_upon" vw ["letter","shape_word","word"]:=⟨f3,_,F3,F3.binds (ps:=["letter","shape_word","word"]) (fun _ _ _ _ _ _ us hl=>by refine us3 (P:=fun us=>bindArgs _ ⟨us,[]⟩=pure (List.zip _ us)) hl ?_;intros;rfl),PySem.W.mg_of X G a3⟩
 have F4:=bw (st:=uu) l4 c4 k4
 have D4:Def K mg "laid" uu ["shape","kinds","words","place"]:=⟨f4,_,F4,F4.binds (ps:=["shape","kinds","words","place"]) (fun _ _ _ _ _ _ us hl=>by refine us4 (P:=fun us=>bindArgs _ ⟨us,[]⟩=pure (List.zip _ us)) hl ?_;intros;rfl),PySem.W.mg_of X G a4⟩
 have F5:=bw (st:=ji) l5 c5 k5
 have D5:Def K mg "holes_under" ji ["shape","kinds","under"]:=⟨f5,_,F5,F5.binds (ps:=["shape","kinds","under"]) (fun _ _ _ _ _ _ us hl=>by refine us3 (P:=fun us=>bindArgs _ ⟨us,[]⟩=pure (List.zip _ us)) hl ?_;intros;rfl),PySem.W.mg_of X G a5⟩
 have F6:=bw (st:=gm) l6 c6 k6
 have D6:Def K mg "fitting_rules" gm ["book","words","place"]:=⟨f6,_,F6,F6.binds (ps:=["book","words","place"]) (fun _ _ _ _ _ _ us hl=>by refine us3 (P:=fun us=>bindArgs _ ⟨us,[]⟩=pure (List.zip _ us)) hl ?_;intros;rfl),PySem.W.mg_of X G a6⟩
 have F7:=bw (st:=mw) l7 c7 k7
 have D7:Def K mg "price_there" mw ["own","holes","least"]:=⟨f7,_,F7,F7.binds (ps:=["own","holes","least"]) (fun _ _ _ _ _ _ us hl=>by refine us3 (P:=fun us=>bindArgs _ ⟨us,[]⟩=pure (List.zip _ us)) hl ?_;intros;rfl),PySem.W.mg_of X G a7⟩
 have F8:=bw (st:=i5) l8 c8 k8
 have D8:Def K mg "settle_part" i5 ["place","fitting","least"]:=⟨f8,_,F8,F8.binds (ps:=["place","fitting","least"]) (fun _ _ _ _ _ _ us hl=>by refine us3 (P:=fun us=>bindArgs _ ⟨us,[]⟩=pure (List.zip _ us)) hl ?_;intros;rfl),PySem.W.mg_of X G a8⟩
 have F9:=bw (st:=uc) l9 c9 k9
 have D9:Def K mg "rules_with_price" uc ["kind","price","fitting","least"]:=⟨f9,_,F9,F9.binds (ps:=["kind","price","fitting","least"]) (fun _ _ _ _ _ _ us hl=>by refine us4 (P:=fun us=>bindArgs _ ⟨us,[]⟩=pure (List.zip _ us)) hl ?_;intros;rfl),PySem.W.mg_of X G a9⟩
 have F10:=bw (st:=mh) l10 c10 k10
 have D10:Def K mg "rows_of_part" mh ["book","place","fitting","least"]:=⟨f10,_,F10,F10.binds (ps:=["book","place","fitting","least"]) (fun _ _ _ _ _ _ us hl=>by refine us4 (P:=fun us=>bindArgs _ ⟨us,[]⟩=pure (List.zip _ us)) hl ?_;intros;rfl),PySem.W.mg_of X G a10⟩
 have F11:=bw (st:=ml) l11 c11 k11
 have D11:Def K mg "rows_with_all_rules" ml ["book","words"]:=⟨f11,_,F11,F11.binds (ps:=["book","words"]) (fun _ _ _ _ _ _ us hl=>by refine us2 (P:=fun us=>bindArgs _ ⟨us,[]⟩=pure (List.zip _ us)) hl ?_;intros;rfl),PySem.W.mg_of X G a11⟩
 have F12:=bw (st:=i9) l12 c12 k12
 have D12:Def K mg "prices" i9 ["book","words"]:=⟨f12,_,F12,F12.binds (ps:=["book","words"]) (fun _ _ _ _ _ _ us hl=>by refine us2 (P:=fun us=>bindArgs _ ⟨us,[]⟩=pure (List.zip _ us)) hl ?_;intros;rfl),PySem.W.mg_of X G a12⟩
 have F13:=bw (st:=t6) l13 c13 k13
 have D13:Def K mg "_law_next" t6 ["deck"]:=⟨f13,_,F13,F13.binds (ps:=["deck"]) (fun _ _ _ _ _ _ us hl=>by refine us1 (P:=fun us=>bindArgs _ ⟨us,[]⟩=pure (List.zip _ us)) hl ?_;intros;rfl),PySem.W.mg_of X G a13⟩
 have F14:=bw (st:=uf) l14 c14 k14
 have D14:Def K mg "_law_ends" uf ["words"]:=⟨f14,_,F14,F14.binds (ps:=["words"]) (fun _ _ _ _ _ _ us hl=>by refine us1 (P:=fun us=>bindArgs _ ⟨us,[]⟩=pure (List.zip _ us)) hl ?_;intros;rfl),PySem.W.mg_of X G a14⟩
 have F15:=bw (st:=lu) l15 c15 k15
 have D15:Def K mg "_law_laid" lu ["kinds","shape","words","ends","place"]:=⟨f15,_,F15,F15.binds (ps:=["kinds","shape","words","ends","place"]) (fun _ _ _ _ _ _ us hl=>by refine us5 (P:=fun us=>bindArgs _ ⟨us,[]⟩=pure (List.zip _ us)) hl ?_;intros;rfl),PySem.W.mg_of X G a15⟩
 have F16:=bw (st:=vt) l16 c16 k16
 have D16:Def K mg "_law_term" vt ["deck","names","most"]:=⟨f16,_,F16,F16.binds (ps:=["deck","names","most"]) (fun _ _ _ _ _ _ us hl=>by refine us3 (P:=fun us=>bindArgs _ ⟨us,[]⟩=pure (List.zip _ us)) hl ?_;intros;rfl),PySem.W.mg_of X G a16⟩
 have F17:=bw (st:=mq) l17 c17 k17
 have D17:Def K mg "_law_shape" mq ["deck","kinds"]:=⟨f17,_,F17,F17.binds (ps:=["deck","kinds"]) (fun _ _ _ _ _ _ us hl=>by refine us2 (P:=fun us=>bindArgs _ ⟨us,[]⟩=pure (List.zip _ us)) hl ?_;intros;rfl),PySem.W.mg_of X G a17⟩
 have F18:=bw (st:=lg) l18 c18 k18
 have D18:Def K mg "_law_deeds" lg ["kinds","shape"]:=⟨f18,_,F18,F18.binds (ps:=["kinds","shape"]) (fun _ _ _ _ _ _ us hl=>by refine us2 (P:=fun us=>bindArgs _ ⟨us,[]⟩=pure (List.zip _ us)) hl ?_;intros;rfl),PySem.W.mg_of X G a18⟩
 have F19:=bw (st:=tq) l19 c19 k19
 have D19:Def K mg "_law_book" tq ["deck","names"]:=⟨f19,_,F19,F19.binds (ps:=["deck","names"]) (fun _ _ _ _ _ _ us hl=>by refine us2 (P:=fun us=>bindArgs _ ⟨us,[]⟩=pure (List.zip _ us)) hl ?_;intros;rfl),PySem.W.mg_of X G a19⟩
 have F20:=bw (st:=mx) l20 c20 k20
 have D20:Def K mg "_law_names" mx ["deck"]:=⟨f20,_,F20,F20.binds (ps:=["deck"]) (fun _ _ _ _ _ _ us hl=>by refine us1 (P:=fun us=>bindArgs _ ⟨us,[]⟩=pure (List.zip _ us)) hl ?_;intros;rfl),PySem.W.mg_of X G a20⟩
 have F21:=bw (st:=ir) l21 c21 k21
 have D21:Def K mg "_law_holes" ir ["kinds","shape"]:=⟨f21,_,F21,F21.binds (ps:=["kinds","shape"]) (fun _ _ _ _ _ _ us hl=>by refine us2 (P:=fun us=>bindArgs _ ⟨us,[]⟩=pure (List.zip _ us)) hl ?_;intros;rfl),PySem.W.mg_of X G a21⟩
 have F22:=bw (st:=lz) l22 c22 k22
 have D22:Def K mg "_law_fits" lz ["book","words"]:=⟨f22,_,F22,F22.binds (ps:=["book","words"]) (fun _ _ _ _ _ _ us hl=>by refine us2 (P:=fun us=>bindArgs _ ⟨us,[]⟩=pure (List.zip _ us)) hl ?_;intros;rfl),PySem.W.mg_of X G a22⟩
 have F23:=bw (st:=ma) l23 c23 k23
 have D23:Def K mg "_law_cost" ma ["rule","keys","least"]:=⟨f23,_,F23,F23.binds (ps:=["rule","keys","least"]) (fun _ _ _ _ _ _ us hl=>by refine us3 (P:=fun us=>bindArgs _ ⟨us,[]⟩=pure (List.zip _ us)) hl ?_;intros;rfl),PySem.W.mg_of X G a23⟩
 have F24:=bw (st:=jf) l24 c24 k24
 have D24:Def K mg "_law_least" jf ["fits"]:=⟨f24,_,F24,F24.binds (ps:=["fits"]) (fun _ _ _ _ _ _ us hl=>by refine us1 (P:=fun us=>bindArgs _ ⟨us,[]⟩=pure (List.zip _ us)) hl ?_;intros;rfl),PySem.W.mg_of X G a24⟩
 have F25:=bw (st:=jh) l25 c25 k25
 have D25:Def K mg "_law_reaching" jh ["fits","least"]:=⟨f25,_,F25,F25.binds (ps:=["fits","least"]) (fun _ _ _ _ _ _ us hl=>by refine us2 (P:=fun us=>bindArgs _ ⟨us,[]⟩=pure (List.zip _ us)) hl ?_;intros;rfl),PySem.W.mg_of X G a25⟩
 have F26:=bw (st:=xj) l26 c26 k26
 have D26:Def K mg "_law_same" xj ["found","due"]:=⟨f26,_,F26,F26.binds (ps:=["found","due"]) (fun _ _ _ _ _ _ us hl=>by refine us2 (P:=fun us=>bindArgs _ ⟨us,[]⟩=pure (List.zip _ us)) hl ?_;intros;rfl),PySem.W.mg_of X G a26⟩
 have F27:=bw (st:=xy) l27 c27 k27
 refine ⟨PySem.W.fnOf "law" "law" (bb xy) (ay xy) (ah xy) .none kV27 dc27 pm27 an27 cd27 ct27,fun s v=>.of_eq rfl,fun base _ _=>?_⟩
 have H0:Has l.prog w K mg base 1 "how_many_below" ["word"] tj:=hasHow (k:=0) G0   D0
 have H1:Has l.prog w K mg base 2 "place_behind" ["words","place"] (vk K):=G2 (k:=1) G0 (H0.up (by decide))  D1
 have H2:Has l.prog w K mg base 1 "leaf_letter" ["word","kinds"] (jd K):=Od (k:=0) G0   D2
 have H3:Has l.prog w K mg base 2 "lies_upon" ["letter","shape_word","word"] ze:=O2 (k:=1) G0 (H0.up (by decide))  D3
 have H4:Has l.prog w K mg base 3 "laid" ["shape","kinds","words","place"] (yc K):=Nd (k:=2) G0 (H2.up (by decide)) (H3.up (by decide)) (H1.up (by decide))  D4
 have H5:Has l.prog w K mg base 2 "holes_under" ["shape","kinds","under"] (n0 K):=Hh (k:=1) G0 (H2.up (by decide))  D5
 have H6:Has l.prog w K mg base 4 "fitting_rules" ["book","words","place"] j7:=Cw (k:=3) G0 (H5.up (by decide)) (H4.up (by decide))  D6
 have H7:Has l.prog w K mg base 1 "price_there" ["own","holes","least"] jb:=J7 (k:=0) G0   D7
 have H8:Has l.prog w K mg base 2 "settle_part" ["place","fitting","least"] nj:=Fx (k:=1) G0 (H7.up (by decide))  D8
 have H9:Has l.prog w K mg base 2 "rules_with_price" ["kind","price","fitting","least"] ya:=hasWith (k:=1) G0 (H7.up (by decide))  D9
 have H10:Has l.prog w K mg base 3 "rows_of_part" ["book","place","fitting","least"] rn:=Iv (k:=2) G0 (H9.up (by decide))  D10
 have H11:Has l.prog w K mg base 5 "rows_with_all_rules" ["book","words"] yj:=Kj (k:=4) G0 (H6.up (by decide)) (H10.up (by decide)) (H8.up (by decide))  D11
 have H12:Has l.prog w K mg base 6 "prices" ["book","words"] m8:=Gf (k:=5) G0 (H11.up (by decide))  D12
 have H13:Has l.prog w K mg base 1 "_law_next" ["deck"] iz:=hasNext (k:=0) G0   D13
 have H14:Has l.prog w K mg base 1 "_law_ends" ["words"] (y9 K):=O1 (k:=0) G0   D14
 have H15:Has l.prog w K mg base 1 "_law_laid" ["kinds","shape","words","ends","place"] (qx K):=Kp (k:=0) G0   D15
 have H16:Has l.prog w K mg base 2 "_law_term" ["deck","names","most"] sm:=Mo (k:=1) G0 (H13.up (by decide))  D16
 have H17:Has l.prog w K mg base 2 "_law_shape" ["deck","kinds"] rf:=Jj (k:=1) G0 (H13.up (by decide))  D17
 have H18:Has l.prog w K mg base 1 "_law_deeds" ["kinds","shape"] (se K):=Hv (k:=0) G0   D18
 have H19:Has l.prog w K mg base 3 "_law_book" ["deck","names"] yp:=Oh (k:=2) G0 (H18.up (by decide)) (H13.up (by decide)) (H17.up (by decide))  D19
 have H20:Has l.prog w K mg base 2 "_law_names" ["deck"] ni:=Jv (k:=1) G0 (H13.up (by decide))  D20
 have H21:Has l.prog w K mg base 1 "_law_holes" ["kinds","shape"] (mz K):=G1 (k:=0) G0   D21
 have H22:Has l.prog w K mg base 2 "_law_fits" ["book","words"] sr:=Jp (k:=1) G0 (H14.up (by decide)) (H21.up (by decide)) (H15.up (by decide))  D22
 have H23:Has l.prog w K mg base 1 "_law_cost" ["rule","keys","least"] m5:=Ll (k:=0) G0   D23
 have H24:Has l.prog w K mg base 2 "_law_least" ["fits"] oh:=Ga (k:=1) G0 (H23.up (by decide))  D24
 have H25:Has l.prog w K mg base 2 "_law_reaching" ["fits","least"] ou:=Hc (k:=1) G0 (H23.up (by decide))  D25
 have H26:Has l.prog w K mg base 4 "_law_same" ["found","due"] kb:=Nf (k:=0) G0   D26
 exact hasLaw (k:=6) G0 (H19.up (by decide)) (H22.up (by decide)) (H24.up (by decide)) (H20.up (by decide)) (H13.up (by decide)) (H25.up (by decide)) (H26.up (by decide)) (H16.up (by decide)) (H12.up (by decide))  F27
theorem walk {l:PySem.W.OpenLaw} {q:Program} {loose:List Str} {XP:(Str→Option Value)→Heap→Prop} {YP:World→Heap→Prop} {d:DefRec} {K:Params→PySem.W.Frag} (hn:l.most=some 63) (hdf:d.params.defaults=[])
  (hY:∀(w:World) (h:Heap),YP w h→(K w.params).In h)
  (F:∀(w:World) (mg:Str→Option Value) (fa:Addr) (h:Heap),(K w.params).In h→h.Ns mainGlobals mg→mg d.name=some (.ref fa)→
   ∃fd:FuncData,(∀(s:Shared) (u:Value),BindsTo s fd ⟨[u],[]⟩ [("script",u)])∧∀base:Heap,(K w.params).In base→base.Ns mainGlobals mg→n8 l.prog w (K w.params) mg base CX0 7 fa fd ["script"] (Dv (K w.params))):
  PySem.W.WalkO q loose XP YP l.row.toRowW d [] (fun f vs=>PySem.call f vs):=
 L2.Mz (n:=63) (k:=7) (x:="script") (CX:=fun _=>CX0) (sp:=fun w=>Dv (K w.params)) hn (by decide) hdf ⟨rfl,by decide,by decide⟩ hY F (fun _ _ a ns hl _ hS=>⟨a,ns,rfl,hS,hl,fun _=>rfl⟩) fun _ _ _ _ _ z=>z
end K42
namespace PySem.W.Fast
def tw17950688558816356843:=()
def tw13933908368051834009:=()
def tw3511849790938633574:=()
def tw1693395359651200806:=()
def tw15891645214122359554:=()
def tw8602170639224590930:=()
def tw12334393704837697494:=()
def tw17280837716004699807:=()
def tw16699922147683424514:=()
def tw11885358436441777496:=()
def tw2650240401641179060:=()
def tw16495779065719994482:=()
def tw10143196530737035292:=()
def tw13044543474701826940:=()
def tw2038188385727035949:=()
def tw17489399020521714086:=()
def tw457984638804150300:=()
def tw2688556394091019262:=()
def tw18348299197726478490:=()
def tw1248195911285878874:=()
def tw6745780031876399805:=()
def tw4742852308363906659:=()
def tw14397358472636115986:=()
def tw9626384588889437307:=()
def tw8913897420145598853:=()
def tw8394890570497059187:=()
def tw4230590783129774643:=()
def tw8257134102651137654:=()
def tw15670233122483925835:=()
def tw13616815311303599831:=()
def tw7532865376095384963:=()
def tw1034916905697996487:=()
def tw14833218243234576635:=()
def tw2832083627156768044:=()
def tw6538595646871280837:=()
def tw10327385135051177143:=()
def tw9777843508501176911:=()
def tw2151736432612114555:=()
def tw11799713481498545114:=()
def tw12206418649576160368:=()
def tw7757917726648346868:=()
def tw18282532922322938169:=()
def tw5213123756885260214:=()
def tw15214632487369022407:=()
def tw14840970851858786655:=()
def tw12620578678138143393:=()
def tw14118781100481159182:=()
def tw6273291262632848456:=()
def tw15404774054491243377:=()
def tw8131459300746243631:=()
def tw3645265067649931848:=()
def tw3929435809917383688:=()
def tw2159911719163639886:=()
def tw13998176090245923773:=()
def tw15620150291674641833:=()
def tw17144828625722848723:=()
def tw3558224288057792804:=()
def tw12786009579089231178:=()
def tw17806518259855590523:=()
def tw815390456847730854:=()
def tw3449259503915610376:=()
def tw4448702702266364703:=()
def tw14561464727946578097:=()
def tw5232284976452237444:=()
def tw13350961008900454913:=()
def tw2677803390766176992:=()
def tw17052103009901220514:=()
def tw6873117294538275691:=()
def tw3162771517705501998:=()
def tw4762286945224998200:=()
def tw5196733321263119853:=()
def tw5094742503416652342:=()
def tw8886239080496485986:=()
def tw5067777942924238612:=()
def tw11096594774850601272:=()
def tw4535770555333752228:=()
def tw9669396594451412668:=()
def tw5733301531768075085:=()
def tw9978630557747074641:=()
def tw3726262431939973982:=()
def tw16184837108513326849:=()
def tw9943412205476439203:=()
def tw2540943882523965573:=()
def tw2210388510285337848:=()
def tw8267514262497065262:=()
def tw16166669243284338590:=()
def tw11466203174538114504:=()
def tw16565469218124479854:=()
def tw2216132679840091934:=()
def tw1240718081359210543:=()
def tw7022019520979722936:=()
def tw11542030395133167963:=()
def tw12526545957989144785:=()
def tw8536697353667303254:=()
def tw9640617733072647837:=()
def tw9335621517893050019:=()
def tw11611838737832212335:=()
def tw3987914233380329527:=()
def tw14107217360361492430:=()
def tw6176118243071845452:=()
def tw8427482472453868109:=()
def tw6594787115165036139:=()
def tw4959591893767257897:=()
def tw1899149950068860128:=()
def tw10033279249245559849:=()
def tw14381567658591876651:=()
def tw12653280891753816457:=()
def tw7518069707561581616:=()
def tw3864934158087421224:=()
def tw5268248431172057446:=()
def tw17931369041141576249:=()
def tw13242951322228309682:=()
def tw2314061275692856084:=()
def tw2174459100425956581:=()
def tw9119030054536474440:=()
def tw3405817488611233404:=()
def tw3421053053659405491:=()
def tw17237917476544483909:=()
def tw14880485137890921409:=()
def tw11239065320682833899:=()
def tw4708288986418242913:=()
def tw8426902591670653896:=()
def tw10709747300181681701:=()
def tw9258719867059114523:=()
def tw6965140552266542011:=()
def tw1706462029903951222:=()
def tw10624970271647501040:=()
def tw5766783048190344642:=()
def tw15686964789527457368:=()
def tw2846580864019609350:=()
def tw16355620043214226117:=()
def tw9319919520962582489:=()
def tw147904094093572942:=()
def tw5880414147484176079:=()
def tw18424198409306822976:=()
def tw13108138782763534733:=()
def tw15331358133164110274:=()
def tw10339571850088473820:=()
def tw15958039661238789005:=()
def tw11137678900577937311:=()
def tw10847678678062252600:=()
def tw14269813402309232258:=()
def tw13036028749712162184:=()
def tw16983544570437251506:=()
def tw15840190675590556005:=()
def tw4481248638344444926:=()
def tw9677894969898283311:=()
def tw15415447206428741037:=()
def tw11776913138451298939:=()
def tw6137018693925075293:=()
def tw6171751626055350345:=()
def tw5471899276733389603:=()
def tw16183735804492065264:=()
def tw15452375531732800138:=()
def tw2846852469798448829:=()
def tw6752127126523097022:=()
def tw11109654181824565054:=()
def tw11865105656607923611:=()
def tw1462296789260937987:=()
def tw2384226792338461166:=()
def tw1483498298025636409:=()
def tw14026976580005679010:=()
def tw14726361094587433424:=()
def tw8327814542950657077:=()
def tw12758058765065744745:=()
def tw3252937199590072814:=()
def tw9622053973558743430:=()
def tw1456167117415962637:=()
def tw10127811297781712595:=()
def tw12860222425997758804:=()
def tw9382333500715870260:=()
end PySem.W.Fast
open PySem PySem.W PyProof.Rows
set_option maxRecDepth 100000 in
set_option maxHeartbeats 0 in
theorem PySem.Challenge.cw_pricecover_k42_prices_holds : PySem.Challenge.rw_pricecover_k42_prices.Holds := by
 w_on;o_law;k_head;(case hw=>w_witness2)
 k_fill
 refine K42.walk (l:=PySem.Challenge.rw_pricecover_k42_prices) rfl rfl (fun w h Y=>PySem.W.kIn_of Y) ?F
 case F=>
  intro w mg fa h KX G hmg
  refine' K42.all_mk KX G hmg ?a0 ?l0 ?c0 ?k0 ?a1 ?l1 ?c1 ?k1 ?a2 ?l2 ?c2 ?k2 ?a3 ?l3 ?c3 ?k3 ?a4 ?l4 ?c4 ?k4 ?a5 ?l5 ?c5 ?k5 ?a6 ?l6 ?c6 ?k6 ?a7 ?l7 ?c7 ?k7 ?a8 ?l8 ?c8 ?k8 ?a9 ?l9 ?c9 ?k9 ?a10 ?l10 ?c10 ?k10 ?a11 ?l11 ?c11 ?k11 ?a12 ?l12 ?c12 ?k12 ?a13 ?l13 ?c13 ?k13 ?a14 ?l14 ?c14 ?k14 ?a15 ?l15 ?c15 ?k15 ?a16 ?l16 ?c16 ?k16 ?a17 ?l17 ?c17 ?k17 ?a18 ?l18 ?c18 ?k18 ?a19 ?l19 ?c19 ?k19 ?a20 ?l20 ?c20 ?k20 ?a21 ?l21 ?c21 ?k21 ?a22 ?l22 ?c22 ?k22 ?a23 ?l23 ?c23 ?k23 ?a24 ?l24 ?c24 ?k24 ?a25 ?l25 ?c25 ?k25 ?a26 ?l26 ?c26 ?k26 ?a27 ?l27 ?c27 ?k27 ?z0 ?z1 ?z2 ?z3 ?z4 ?z5 ?z6 ?z7 ?z8 ?z9 ?z10 ?z11 ?z12 ?y0 ?x0 ?hh0x0 ?hh0x1 ?hh0x2 ?hh0x3 ?ha0
  (case a0=>k_is)
  (case l0=>k_is)
  (case c0=>k_is)
  (case k0=>k_is)
  (case a1=>k_is)
  (case l1=>k_is)
  (case c1=>k_is)
  (case k1=>k_is)
  (case a2=>k_is)
  (case l2=>k_is)
  (case c2=>k_is)
  (case k2=>k_is)
  (case a3=>k_is)
  (case l3=>k_is)
  (case c3=>k_is)
  (case k3=>k_is)
  (case a4=>k_is)
  (case l4=>k_is)
  (case c4=>k_is)
  (case k4=>k_is)
  (case a5=>k_is)
  (case l5=>k_is)
  (case c5=>k_is)
  (case k5=>k_is)
  (case a6=>k_is)
  (case l6=>k_is)
  (case c6=>k_is)
  (case k6=>k_is)
  (case a7=>k_is)
  (case l7=>k_is)
  (case c7=>k_is)
  (case k7=>k_is)
  (case a8=>k_is)
  (case l8=>k_is)
  (case c8=>k_is)
  (case k8=>k_is)
  (case a9=>k_is)
  (case l9=>k_is)
  (case c9=>k_is)
  (case k9=>k_is)
  (case a10=>k_is)
  (case l10=>k_is)
  (case c10=>k_is)
  (case k10=>k_is)
  (case a11=>k_is)
  (case l11=>k_is)
  (case c11=>k_is)
  (case k11=>k_is)
  (case a12=>k_is)
  (case l12=>k_is)
  (case c12=>k_is)
  (case k12=>k_is)
  (case a13=>k_is)
  (case l13=>k_is)
  (case c13=>k_is)
  (case k13=>k_is)
  (case a14=>k_is)
  (case l14=>k_is)
  (case c14=>k_is)
  (case k14=>k_is)
  (case a15=>k_is)
  (case l15=>k_is)
  (case c15=>k_is)
  (case k15=>k_is)
  (case a16=>k_is)
  (case l16=>k_is)
  (case c16=>k_is)
  (case k16=>k_is)
  (case a17=>k_is)
  (case l17=>k_is)
  (case c17=>k_is)
  (case k17=>k_is)
  (case a18=>k_is)
  (case l18=>k_is)
  (case c18=>k_is)
  (case k18=>k_is)
  (case a19=>k_is)
  (case l19=>k_is)
  (case c19=>k_is)
  (case k19=>k_is)
  (case a20=>k_is)
  (case l20=>k_is)
  (case c20=>k_is)
  (case k20=>k_is)
  (case a21=>k_is)
  (case l21=>k_is)
  (case c21=>k_is)
  (case k21=>k_is)
  (case a22=>k_is)
  (case l22=>k_is)
  (case c22=>k_is)
  (case k22=>k_is)
  (case a23=>k_is)
  (case l23=>k_is)
  (case c23=>k_is)
  (case k23=>k_is)
  (case a24=>k_is)
  (case l24=>k_is)
  (case c24=>k_is)
  (case k24=>k_is)
  (case a25=>k_is)
  (case l25=>k_is)
  (case c25=>k_is)
  (case k25=>k_is)
  (case a26=>k_is)
  (case l26=>k_is)
  (case c26=>k_is)
  (case k26=>k_is)
  (case a27=>k_is)
  (case l27=>k_is)
  (case c27=>k_is)
  (case k27=>k_is)
  (case z0=>k_is)
  (case z1=>k_is)
  (case z2=>k_is)
  (case z3=>k_is)
  (case z4=>k_is)
  (case z5=>k_is)
  (case z6=>k_is)
  (case z7=>k_is)
  (case z8=>k_is)
  (case z9=>k_is)
  (case z10=>k_is)
  (case z11=>k_is)
  (case z12=>k_is)
  (case y0=>k_is)
  (case x0=>k_is)
  (case hh0x0=>first | rfl | k_is)
  (case hh0x1=>first | rfl | k_is)
  (case hh0x2=>first | rfl | k_is)
  (case hh0x3=>first | rfl | k_is)
  (case ha0=>first | rfl | decide | k_is)
#print axioms PySem.Challenge.cw_pricecover_k42_prices_holds
