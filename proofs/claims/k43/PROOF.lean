import PyProof.Rows.All
import Wide.All
import OpenK.AllK
import Wide.FinOn
import Lean
import PyProof.EqAt
import PyProof.EqKinds
import PyProof.TupleCall
import KE.KSortTup
import PyProof.EnumMake
import PyProof.EnumStmt
import PyProof.ListRange
import PyProof.Rows.SortPure
import PyProof.Rows.SortRuns
import KE.KDictList
import KE.KRevIter
import PyProof.DictItems
import PyProof.ZipIter
import PyProof.DictUpdate
import PyProof.TupleIter
import PyProof.ListNew
import PyProof.Rows.ZipGen
import PyProof.AttrMiss
import PyProof.FactsAll.dict_1
import PyProof.AttrMissHeap
import KE.KDictOf
import PyProof.Rows.SetFrom
import PyProof.Rows.Range3
import PyProof.DictIter
import PyProof.Rows.TupDisplay
import PyProof.Draws
import PyProof.Rows.CallKwBuiltin
import PySem.Challenge.RW_pricecover_k43_is_table
set_option Elab.async false
set_option bootstrap.genMatcherCode false
set_option linter.all false
set_option maxRecDepth 100000
set_option maxHeartbeats 4000000
declare_syntax_cat zz
syntax "§" "¶" "£" "¤" "¿" "¦" "¡" : zz
syntax "§" term : tactic
macro_rules | `(tactic|§$t)=>`(tactic|exact $t)
syntax "¶" term : tactic
macro_rules | `(tactic|¶$t)=>`(tactic|refine $t)
open Lean.Parser.Tactic in
syntax "£" rcasesPatMed (":" term)? ":=" term : tactic
macro_rules | `(tactic|£$p:rcasesPatMed:=$t)=>`(tactic|obtain $p:rcasesPatMed:=$t) | `(tactic|£ $p:rcasesPatMed : $y := $t)=>`(tactic|obtain $p:rcasesPatMed : $y := $t)
syntax "¤" Lean.Parser.Term.letDecl : tactic
macro_rules | `(tactic|¤$d:letDecl)=>`(tactic|have $d:letDecl)
syntax:max "¥" : term
macro_rules | `(¥)=>`(by first | lia | omega)
syntax "¡" : tactic
macro_rules | `(tactic|¡)=>`(tactic|first | lia | omega)
syntax "¿" (colGt term:max)* : tactic
macro_rules | `(tactic|¿$x*)=>`(tactic|intro $x*)
syntax "¦" ident ":" term : tactic
macro_rules | `(tactic|¦ $x:ident : $t)=>`(tactic|by_cases $x : $t)
namespace L2
open PySem PySem.Spec PyProof.Rows
abbrev Key:=Sum Int Str
noncomputable def ye:Key→Value→Bool
 | .inl k,v=>Value.isInt k v
 | .inr x,v=>Value.isStrOf x v
noncomputable def keyH (w:World):Key→Int
 | .inl k=>hashInt k
 | .inr x=>hashStr w x
theorem ck:∀{k:Key} {v:Value},ye k v=true→(∃i t,k=Sum.inl i∧v=Value.int i t)∨(∃x t,k=Sum.inr x∧v=Value.str x t)
 | .inl i,v,h=>by
  £⟨t,e⟩:=Value.isInt_shape (k:=i) (v:=v) h;§.inl ⟨i,t,rfl,e⟩
 | .inr x,v,h=>by
  £⟨t,e⟩:=Value.isStrOf_shape (x:=x) (v:=v) h;§.inr ⟨x,t,rfl,e⟩
theorem Iu (i:Int) (t:Tok):ye (.inl i) (.int i t)=true:=by simp[ye,Value.isInt]
theorem Jd (x:Str) (t:Tok):ye (.inr x) (.str x t)=true:=by simp[ye,Value.isStrOf]
theorem key_ll (a b:Int):decide ((Sum.inl a:Key)=Sum.inl b)=(a==b):=by
 ¦e:a=b
 ·subst e;simp
 ·¤h:¬(Sum.inl a:Key)=Sum.inl b:=λq=>e (Sum.inl.inj q);rw[decide_eq_false h];§(beq_eq_false_iff_ne.mpr e).symm
theorem key_rr (a b:Str):decide ((Sum.inr a:Key)=Sum.inr b)=decide (a=b):=by
 ¦e:a=b
 ·subst e;simp
 ·¤h:¬(Sum.inr a:Key)=Sum.inr b:=λq=>e (Sum.inr.inj q);rw[decide_eq_false h,decide_eq_false e]
theorem key_lr (a:Int) (b:Str):decide ((Sum.inl a:Key)=Sum.inr b)=false:=decide_eq_false (λq=>nomatch q)
theorem key_rl (a:Str) (b:Int):decide ((Sum.inr a:Key)=Sum.inl b)=false:=decide_eq_false (λq=>nomatch q)
noncomputable def bj (prog:Program) (w:World):PySem.KeyKind prog w Key where
 is:=ye
 hash:=keyH w
 inj:=λv a b ha hb=>by
  rcases ck ha with ⟨i,t,rfl,rfl⟩ | ⟨x,t,rfl,rfl⟩
  ·rcases ck hb with ⟨j,u,rfl,e⟩ | ⟨y,u,rfl,e⟩
   ·injection e with e1 _;rw[e1]
   ·§nomatch e
  ·rcases ck hb with ⟨j,u,rfl,e⟩ | ⟨y,u,rfl,e⟩
   ·§nomatch e
   ·injection e with e1 _;rw[e1]
 byValue:=λk v h=>by
  rcases ck h with ⟨i,t,rfl,rfl⟩ | ⟨x,t,rfl,rfl⟩ <;> rfl
 pyHash:=λhv h=>by
  rcases ck hv with ⟨i,t,rfl,rfl⟩ | ⟨x,t,rfl,rfl⟩
  ·§wpAny_pyHash_int h
  ·§wpAny_pyHash_str h
 eqBool:=λhu hv h=>by
  rcases ck hu with ⟨i,t,rfl,rfl⟩ | ⟨x,t,rfl,rfl⟩
  ·rcases ck hv with ⟨j,u,rfl,rfl⟩ | ⟨y,u,rfl,rfl⟩
   ·rw[key_ll] at h;§wpAny_eqBool_int h
   ·rw[key_lr] at h;§SeqAt.EqAt.int_str i t y u _ _ _ _ h
  ·rcases ck hv with ⟨j,u,rfl,rfl⟩ | ⟨y,u,rfl,rfl⟩
   ·rw[key_rl] at h;§SeqAt.EqAt.str_int x t j u _ _ _ _ h
   ·rw[key_rr] at h;§wpAny_eqBool_str h
 «strs»:=λk x t v h=>by
  rcases ck h with ⟨i,u,rfl,e⟩ | ⟨y,u,rfl,e⟩
  ·§nomatch e
  ·injection e with e1 _
   subst e1;cases v <;> rfl
theorem Aw (prog:Program) (w:World) (i:Int) (t:Tok):(bj prog w).is (.inl i) (.int i t)=true:=Iu i t
theorem kc (prog:Program) (w:World) (x:Str) (t:Tok):(bj prog w).is (.inr x) (.str x t)=true:=Jd x t
end L2
namespace L2
open PySem PySem.Spec PyProof.Rows
inductive V where
 | non | bl (b:Bool) | int (i:Int) | str (x:Str) | byt (b:Array UInt8) | flt (b:UInt64) | ref (a:Addr) | ty (n:String)
 deriving DecidableEq
def RelV:V→Value→Prop
 | .non,u=>u=Value.none
 | .bl b,u=>u=Value.bool b
 | .int i,u=>∃t,u=Value.int i t
 | .str x,u=>∃t,u=Value.str x t
 | .byt b,u=>∃t,u=Value.bytes b t
 | .flt b,u=>∃t,u=Value.float b t
 | .ref a,u=>u=Value.ref a
 | .ty n,u=>u=Value.type n
abbrev Vals:List V→List Value→Prop:=Paired RelV
theorem Vals.length {xs:List V} {us:List Value} (r:Vals xs us):xs.length=us.length:=Paired.length r
theorem Vals.get:∀{xs:List V} {us:List Value} {i:Nat} {x:V},Vals xs us→xs[i]?=some x→∃u,us[i]?=some u∧RelV x u
 | _,_,_,_,.nil,e=>by simp at e
 | _,_,0,_,.cons r _,e=>by simp at e;subst e;§⟨_,rfl,r⟩
 | _,_,i+1,x,.cons _ t,e=>by
  £⟨u,h1,h2⟩:=Vals.get (i:=i) (x:=x) t (by simpa using e);§⟨u,by simpa using h1,h2⟩
theorem Vals.set {x:V} {u:Value} (r:RelV x u):∀{xs:List V} {us:List Value} (i:Nat),Vals xs us→Vals (xs.set i x) (us.set i u)
 | _,_,_,.nil=>.nil
 | _,_,0,.cons _ t=>.cons r t
 | _,_,i+1,.cons q t=>.cons q (Vals.set r i t)
theorem Vals.append:∀{xs ys:List V} {us ws:List Value},Vals xs us→Vals ys ws→Vals (xs++ys) (us++ws)
 | _,_,_,_,.nil,s=>s
 | _,_,_,_,.cons r t,s=>.cons r (Vals.append t s)
theorem Vals.take:∀{xs:List V} {us:List Value} (n:Nat),Vals xs us→Vals (xs.take n) (us.take n)
 | _,_,0,_=>.nil
 | _,_,_+1,.nil=>.nil
 | _,_,n+1,.cons r t=>.cons r (Vals.take n t)
theorem Vals.drop:∀{xs:List V} {us:List Value} (n:Nat),Vals xs us→Vals (xs.drop n) (us.drop n)
 | _,_,0,r=>r
 | _,_,_+1,.nil=>.nil
 | _,_,n+1,.cons _ t=>Vals.drop n t
def m5:Option V→Option Value→Prop
 | some v,some u=>RelV v u
 | none,none=>True
 | _,_=>False
def KV {κ:Type}:List (κ×V)→List (κ×Value)→Prop:=Paired λ(p:κ×V) (q:κ×Value)=>p.1=q.1∧RelV p.2 q.2
noncomputable def kV:Key→V
 | .inl i=>.int i
 | .inr x=>.str x
inductive HO where
  | lst (xs:List V)
  | tup (xs:List V)
  | dK (kvs:List (Key×V)) | dT (kvs:List (List Key×V))
  | set (S:Int→Bool) (n:Nat)
  | ins (C dx:Addr) (fs:List (Str×V))
  | own (x:Addr)
  | xd (fs:List (Str×V))
  | met (f x:Addr)
  | rng (lo hi:Int)
  | frz (o:Obj) (u:HO)
  | tbl (ps:Array Value)
  | ext (φ:Heap→Prop)
abbrev Hp:=Addr→Option HO
noncomputable def upd (H:Hp) (a:Addr) (o:HO):Hp:=λb=>if b=a then some o else H b
theorem ae {H:Hp} {a:Addr} {o:HO}:upd H a o a=some o:=by unfold upd;rw[if_pos rfl]
theorem af {H:Hp} {a b:Addr} {o:HO} (h:b≠a):upd H a o b=H b:=by unfold upd;rw[if_neg h]
theorem df {H:Hp} {a b:Addr} {o u:HO} (h:H a=some o) (h':H b=some u) (d:o≠u):a≠b:=by
 ¿e;subst e;rw[h] at h';§d (Option.some.inj h')
theorem ag {H:Hp} {a b:Addr} {o:HO} (h:H a=some o) (h':H b=none):a≠b:=by
 ¿e;subst e;rw[h] at h';cases h'
section
variable (P:Program) (w:World)
def Dc (h:Heap) (a:Addr) (its:Array Value):Prop:=∃o,h.get? a=some o∧o.cls=.type "tuple"∧∃n,o.data=.seq its n∧o.dict=none
theorem Dc.tup {h:Heap} {a:Addr} {its:Array Value} (x:Dc h a its):IsTup h a its:=let ⟨o,h1,h2,n,h3,_⟩:=x;⟨o,h1,h2,n,h3⟩
def br (H:Hp) (h:Heap) (a:Addr):HO→Prop
 | .lst xs=>xs.length≤sizeLine∧∃(its:List Value) (n:Nat),Vals xs its∧h.get? a=some { cls:=.type "list",data:=.seq its.toArray n }
 | .tup xs=>xs.length≤sizeLine∧∃its:List Value,Vals xs its∧Dc h a its.toArray
 | .dK kvs=>kvs.length≤sizeLine∧(a==sysModules)=false∧∃vs,KV kvs vs∧h.DictOf (bj P w) a vs
 | .dT kvs=>kvs.length≤sizeLine∧(a==sysModules)=false∧∃xs:List (List Key×Addr×Value),
   Paired (λ(p:List Key×V) (q:List Key×Addr×Value)=>p.1=q.1∧H q.2.1=some (.tup (p.1.map kV))∧RelV p.2 q.2.2) kvs xs∧
   ∃o es ep,h.get? a=some o∧o.ExactDict∧o.data=.dict es ep∧es.toList=xs.map (entryOfKey (tupleKind (bj P w)))∧(xs.map (·.1)).Nodup
 | .set S n=>h.SetOf (intKind P w) a S n
 | .ins C dx fs=>H dx=some (.own a)∧fs.length≤1000∧dx≠a∧h.get? a=some (PySem.W.instObj C dx)∧
   ∃mA,h.Ns1 dx mA∧(∀f,m5 (fs.lookup f) (mA f))∧PySem.Within mA (fs.map (·.1))
 | .own _=>∃o,h.get? a=some o
 | .xd fs=>∃mA,h.Ns1 a mA∧∀f,m5 (fs.lookup f) (mA f)
 | .rng lo hi=>∃t u v,h.get? a=some { cls:=.type "range",data:=.fields #[.int lo t,.int hi u,.int 1 v] }
 | .frz o u=>h.get? a=some o∧br H h a u
 | .tbl ps=>h.get? a=some { cls:=.none,data:=.fields ps }
 | .met f x=>h.get? a=some (PySem.W.methodObj (.ref f) (.ref x))
 | .ext φ=>φ h∧(∃o,h.get? a=some o)∧∀h1 h2:Heap,φ h1→(∀o,h1.get? a=some o→h2.get? a=some o)→φ h2
def HOk (H:Hp) (h:Heap):Prop:=∀a o,H a=some o→br P w H h a o
end
section
variable {P:Program} {w:World} {H H':Hp} {h h':Heap} {a:Addr} {o:HO}
theorem br.lt (x:br P w H h a o):a < h.objs.size:=by
 cases o with
 | lst xs=>£⟨_,_,_,_,e⟩:=x;§Heap.lt_size e
 | tup xs=>£⟨_,_,_,p⟩:=x;§p.tup.lt
 | dK kvs=>£⟨_,_,_,_,o,_,_,e,_⟩:=x;§Heap.lt_size e
 | dT kvs=>£⟨_,_,_,_,o,_,_,e,_⟩:=x;§Heap.lt_size e
 | set S n=>£⟨o,_,_,_,e,_⟩:=x;§Heap.lt_size e
 | ins C dx fs=>£⟨_,_,_,e,_⟩:=x;§Heap.lt_size e
 | own y=>£⟨_,e⟩:=x;§Heap.lt_size e
 | xd fs=>£⟨_,⟨_,_,_,e,_⟩,_⟩:=x;§Heap.lt_size e
 | rng lo hi=>£⟨_,_,_,e⟩:=x;§Heap.lt_size e
 | frz ob u=>£⟨e,_⟩:=x;§Heap.lt_size e
 | tbl ps=>§Heap.lt_size (show h.get? a=some _ from x)
 | met f y=>§Heap.lt_size (show h.get? a=some _ from x)
 | ext φ=>£⟨_,⟨_,e⟩,_⟩:=x;§Heap.lt_size e
theorem Paired.mapP {α β:Type} {F G:α→β→Prop}:∀{l₁:List α} {l₂:List β},Paired F l₁ l₂→(∀a b,F a b→G a b)→Paired G l₁ l₂
 | _,_,.nil,_=>.nil
 | _,_,.cons r t,f=>.cons (f _ _ r) (Paired.mapP t f)
theorem br.xn (x:br P w H h a o) (k:∀b u,(b=a∨H b=some (.own a))→h.get? b=some u→h'.get? b=some u)
  (ho:∀b,H b=some (.own a)→H' b=some (.own a)) (ht:∀b xs,H b=some (.tup xs)→H' b=some (.tup xs)):br P w H' h' a o:=by
 induction o with
 | lst xs=>£⟨z,its,n,r,e⟩:=x;§⟨z,its,n,r,k _ _ (.inl rfl) e⟩
 | tup xs=>£⟨z,its,r,ob,e,c⟩:=x;§⟨z,its,r,ob,k _ _ (.inl rfl) e,c⟩
 | dK kvs=>£⟨z,y,vs,r,ob,es,ep,e,c⟩:=x;§⟨z,y,vs,r,ob,es,ep,k _ _ (.inl rfl) e,c⟩
 | dT kvs=>
  £⟨z,y,xs,r,ob,es,ep,e,c⟩:=x;§⟨z,y,xs,Paired.mapP r λp q z=>⟨z.1,ht _ _ z.2.1,z.2.2⟩,ob,es,ep,k _ _ (.inl rfl) e,c⟩
 | set S n=>£⟨ob,es,ep,t,e,c⟩:=x;§⟨ob,es,ep,t,k _ _ (.inl rfl) e,c⟩
 | ins C dx fs=>
  £⟨d,z,ne,e,mA,⟨od,es,ep,e2,c⟩,r⟩:=x;§⟨ho _ d,z,ne,k _ _ (.inl rfl) e,mA,⟨od,es,ep,k _ _ (.inr d) e2,c⟩,r⟩
 | own y=>£⟨ob,e⟩:=x;§⟨ob,k _ _ (.inl rfl) e⟩
 | xd fs=>£⟨mA,⟨od,es,ep,e,c⟩,r⟩:=x;§⟨mA,⟨od,es,ep,k _ _ (.inl rfl) e,c⟩,r⟩
 | rng lo hi=>£⟨t,u,v,e⟩:=x;§⟨t,u,v,k _ _ (.inl rfl) e⟩
 | frz ob u ih=>£⟨e,q⟩:=x;§⟨k _ _ (.inl rfl) e,ih q⟩
 | tbl ps=>
  ¤e:h.get? a=some { cls:=.none,data:=.fields ps }:=x;show h'.get? a=some { cls:=.none,data:=.fields ps }
  §k a _ (.inl rfl) e
 | met f y=>
  ¤e:h.get? a=some (PySem.W.methodObj (.ref f) (.ref y)):=x;show h'.get? a=some (PySem.W.methodObj (.ref f) (.ref y))
  §k a _ (.inl rfl) e
 | ext φ=>£⟨p,⟨o,e⟩,st⟩:=x;§⟨st _ _ p λo q=>k _ _ (.inl rfl) q,⟨o,k _ _ (.inl rfl) e⟩,st⟩
theorem HOk.lt (x:HOk P w H h) (e:H a=some o):a < h.objs.size:=(x a o e).lt
theorem vz {xs:List V} (x:HOk P w H h) (e:H a=some (.tup xs)):xs.length≤sizeLine∧∃its:List Value,Vals xs its∧IsTup h a its.toArray:=
 let ⟨z,its,r,p⟩:=x a _ e
 ⟨z,its,r,p.tup⟩
theorem HOk.fresh (x:HOk P w H h) (e:h.objs.size≤a):H a=none:=by
 cases q:H a with
 | none=>rfl
 | some u=>§absurd (Nat.lt_of_lt_of_le (x.lt q) e) (Nat.lt_irrefl _)
theorem HOk.kept (x:HOk P w H h) (k:∀b u,h.get? b=some u→h'.get? b=some u):HOk P w H h':=λa o e=>
 (x a o e).xn (λb u _ q=>k b u q) (λ_ q=>q) λ_ _ q=>q
theorem HOk.laid (x:HOk P w H h) (k:∀b u,h.get? b=some u→h'.get? b=some u) (hp:h.objs.size≤a) (new:br P w (upd H a o) h' a o):HOk P w (upd H a o) h':=λb u e=>by
 ¤hn:=x.fresh hp;¦hb:b=a
 ·subst hb;rw[ae] at e;cases e;§new
 ·rw[af hb] at e;§(x b u e).xn (λc v _ q=>k c v q) (λc q=>by rw[af (ag q hn)];§q) λc xs q=>by rw[af (ag q hn)];§q
end
def Rd (H:Hp) (a:Addr) (u:HO):Prop:=H a=some u∨∃o,H a=some (.frz o u)
theorem Rd.ok {P:Program} {w:World} {H:Hp} {h:Heap} {a:Addr} {u:HO} (r:Rd H a u) (x:HOk P w H h):br P w H h a u:=by
 rcases r with r | ⟨o,r⟩
 ·§x a u r
 ·£⟨_,q⟩:=x a _ r;§q
def Mut:Option HO→Prop
 | some (.lst _)=>True
 | some (.dK _)=>True
 | some (.dT _)=>True
 | some (.set _ _)=>True
 | some (.ins _ _ _)=>True
 | some (.ext _)=>True
 | _=>False
section
variable {P:Program} {w:World} {H:Hp} {h h':Heap} {x e:Addr} {o':HO}
theorem HOk.write (ok:HOk P w H h) (mu:Mut (H x)) (he:e=x∨H e=some (.own x)) (k:∀b u,b≠e→h.get? b=some u→h'.get? b=some u) (heo:∃u,h'.get? e=some u)
  (new:br P w (upd H x o') h' x o'):HOk P w (upd H x o') h':=λb u q=>by
 ¤nown:∀c y,H c=some (.own y)→c≠x:=λc y r z=>by subst z;rw[r] at mu;§mu
 ¤ntup:∀c xs,H c=some (.tup xs)→c≠x:=λc xs r z=>by subst z;rw[r] at mu;§mu
 ¦hb:b=x
 ·subst hb;rw[ae] at q;cases q;§new
 ·rw[af hb] at q;¦hbe:b=e
  ·¤q':H b=some (.own x):=by
    rcases he with z | z
    ·§absurd (hbe.trans z) hb
    ·rw[hbe];§z
   rw[q] at q';cases q';£⟨v,hv⟩:=heo;§⟨v,by rw[hbe];§hv⟩
  ·¶(ok b u q).xn (λc v hc r=>k c v ?_ r) (λc r=>by rw[af (nown c b r)];§r) λc xs r=>by rw[af (ntup c xs r)];§r
   rcases hc with rfl | hc
   ·§hbe
   ·rintro rfl;rcases he with z | z
    ·§nown c b hc z
    ·rw[hc] at z;cases z;§hb rfl
end
structure Un (fs ex:List Addr) (H H':Hp) (h h':Heap):Prop where
 keep:∀b o,h.get? b=some o→H b=none→b∉fs→b∉ex→h'.get? b=some o
 slot:∀b o,h.get? b=some o→H b=none→b∈fs→b∉ex→∃sl,h'.get? b=some { o with slots:=sl }
 free:∀b o,h.get? b=some o→H b=none→b∉ex→H' b=none
 there:∀b o,h.get? b=some o→b∉ex→∃o',h'.get? b=some o'
 rq:∀b xs,H b=some (.tup xs)→H' b=some (.tup xs)
 frzs:∀b o u,H b=some (.frz o u)→H' b=some (.frz o u)
 tbls:∀b ps,H b=some (.tbl ps)→∃more,H' b=some (.tbl (ps++more))
section
variable {fs fs' ex ex':List Addr} {H H1 H2:Hp} {h h1 h2 h':Heap} {a x e:Addr} {o:HO}
theorem Un.any (u:Un fs ex H H1 h h1) {b:Addr} {ob:Obj} (q:h.get? b=some ob) (n:H b=none) (hx:b∉ex):∃sl,h1.get? b=some { ob with slots:=sl }:=by
 ¦hb:b∈fs
 ·§u.slot b ob q n hb hx
 ·§⟨ob.slots,u.keep b ob q n hb hx⟩
theorem Un.kept (k:∀b u,h.get? b=some u→h'.get? b=some u):Un fs ex H H h h':=
 ⟨λb ob q _ _ _=>k b ob q,λb ob q _ _ _=>⟨ob.slots,k b ob q⟩,λ_ _ _ n _=>n,λb ob q _=>⟨ob,k b ob q⟩,λ_ _ q=>q,λ_ _ _ q=>q,λ_ ps q=>⟨#[],by rw[q];simp⟩⟩
theorem Un.refl:Un fs ex H H h h:=Un.kept λ_ _ q=>q
theorem Un.laid (k:∀b u,h.get? b=some u→h'.get? b=some u) (hp:h.objs.size≤a) (hn:H a=none):Un fs ex H (upd H a o) h h' where
 keep:=λb u q _ _ _=>k b u q
 slot:=λb u q _ _ _=>⟨u.slots,k b u q⟩
 free:=λb u q n _=>by rw[af (Nat.ne_of_lt (Nat.lt_of_lt_of_le (Heap.lt_size q) hp))];§n
 there:=λb u q _=>⟨u,k b u q⟩
 rq:=λb xs q=>by rw[af (ag q hn)];§q
 frzs:=λb u xs q=>by rw[af (ag q hn)];§q
 tbls:=λb ps q=>⟨#[],by rw[af (ag q hn),q];simp⟩
theorem Un.write (mu:Mut (H x)) (he:e=x∨H e=some (.own x)) (k:∀b u,b≠e→h.get? b=some u→h'.get? b=some u) (heo:∃u,h'.get? e=some u):Un fs ex H (upd H x o) h h':=by
 ¤hx:∀b,H b=none→b≠x:=λb n z=>by subst z;rw[n] at mu;§mu
 ¤hb:∀b,H b=none→b≠e:=λb n z=>by
  subst z;rcases he with r | r
  ·§hx b n r
  ·rw[n] at r;cases r
 ¤hm:∀b u,H b=some u→¬Mut (some u)→b≠x:=λb u q nm z=>by subst z;rw[q] at mu;§nm mu
 ¶⟨λb u q n _ _=>k b u (hb b n) q,λb u q n _ _=>⟨u.slots,k b u (hb b n) q⟩,λb u q n _=>by rw[af (hx b n)];§n,λb u q _=>?_,
  λb xs q=>by rw[af (hm b _ q λz=>z)];§q,λb u xs q=>by rw[af (hm b _ q λz=>z)];§q,λb ps q=>⟨#[],by rw[af (hm b _ q λz=>z),q];simp⟩⟩
 ¦hbe:b=e
 ·subst hbe;§heo
 ·§⟨u,k b u hbe q⟩
end
noncomputable def trk (h:Heap) (H:Hp):List Addr:=(List.range h.objs.size).filter λa=>(H a).isSome
noncomputable def zi (h:Heap) (H:Hp):Heap:=PySem.W.hideAll h (trk h H)
theorem Ho (h:Heap) (H:Hp):(zi h H).objs.size=h.objs.size:=PySem.W.hideAll_size _ _
theorem Mp {h:Heap} {H:Hp} {b:Addr} {o:Obj} (e:h.get? b=some o) (n:H b=none):(zi h H).get? b=some o:=
 PySem.W.hideAll_get _ e λhm=>by
  ¤q:(H b).isSome=true:=(List.mem_filter.mp hm).2;rw[n] at q;simp at q
theorem P6 {h:Heap} {H:Hp} {b:Addr} {o:Obj} (e:(zi h H).get? b=some o):h.get? b=some o∧H b=none:=by
 ¤e':h.get? b=some o:=PySem.W.of_hideAll (trk h H) e;¶⟨e',?_⟩;cases q:H b with
 | none=>rfl
 | some x=>
  ¤hm:b∈trk h H:=List.mem_filter.mpr ⟨List.mem_range.mpr (Heap.lt_size e'),by simp[q]⟩;¤z:(zi h H).get? b=none:=PySem.W.hideAll_none (trk h H) hm;rw[z] at e;cases e
end L2
namespace L2
open PySem PySem.Spec PyProof.Rows
structure Mod (K:PySem.W.Frag) (mg:Str→Option Value) (base:Heap):Prop where
 kin:K.In base
 glob:base.Ns mainGlobals mg
 blt:∃mb,base.Ns builtinsNs mb∧∀x:Str,x≠"__name__"→mb x=bootBuiltins x
 nolimit:base.NoLimit
structure Cx where
 prog:Program
 w:World
 K:PySem.W.Frag
 mg:Str→Option Value
 base:Heap
 A:Around
 N:List Str
 s₀:Shared
 H₀:Hp
 env:Env
 outer:List Env
 stack:List Env
 ex:List Addr
 fn:Str→Bool
 calm:Bool
 pn:List (Addr×Obj)
 xe:Value→Shared→Prop
noncomputable def frs (l:List Env):List Addr:=l.filterMap (·.frame)
noncomputable abbrev Cx.fs (X:Cx):List Addr:=frs X.outer
def Vis (sc:Scope) (x:Str):Prop:=sc.names.lookup x=some .local∨sc.names.lookup x=some .cell∨sc.names.lookup x=some .free
def Loc (sc:Scope) (x:Str):Prop:=sc.names.lookup x=some .local∨sc.names.lookup x=some .cell
def Look (env:Env) (h:Heap) (m:Str→Option Value) (x:Str) (u:Value):Prop:=
 (env.kindOf x=some .local∧m x=some u)∨((env.kindOf x=some .cell∨env.kindOf x=some .free)∧∃c,env.cells.lookup x=some c∧h.IsCell c (some u))
structure Cx.Ok (X:Cx):Prop where
 mod:Mod X.K X.mg X.base
 kind:X.env.scope.kind=.function
 glob:X.env.globals=mainGlobals
 blt:X.env.builtins=builtinsNs
 above:X.s₀.heap.objs.size≤X.env.locals
 inj:∀x y c,X.env.cells.lookup x=some c→X.env.cells.lookup y=some c→x=y
 has:∀x,(X.env.kindOf x=some .cell∨X.env.kindOf x=some .free)→∃c,X.env.cells.lookup x=some c
 cab:∀x c,X.fn x=true→X.env.cells.lookup x=some c→X.s₀.heap.objs.size≤c
 hd:X.calm=true→X.A.handled=none
 frames:X.A.frames=some X.stack
 stk:X.stack=X.outer∨(X.stack=X.env::X.outer∧X.env.frame=some X.env.locals)
 exf:∀b∈X.ex,b≠X.env.locals∧∀x c,X.env.cells.lookup x=some c→c≠b
 bs:∀b o,X.base.get? b=some o→X.s₀.heap.get? b=some o∧X.H₀ b=none
 bsz:X.base.objs.size≤X.s₀.heap.objs.size
 noex:∀b o,X.base.get? b=some o→b∉X.ex
 exfs:∀b∈X.ex,b∉X.fs
 se:X.s₀.heap.FunFrames X.base X.outer
 frf:∀b∈X.fs,X.H₀ b=none
structure Inv (X:Cx) (pins:List (Addr×Obj)) (σ:List (Option V)) (H:Hp) (s:Shared):Prop where
 ok:X.Ok
 os:s.os=X.s₀.os
 bare:AllBare s.gens
 base:Un X.fs X.ex X.H₀ H X.s₀.heap s.heap
 loc:∃m,s.heap.Ns X.env.locals m∧∀(i:Nat) (x:Str) (v:V),X.N[i]?=some x→σ[i]?=some (some v)→Vis X.env.scope x→∃u,RelV v u∧Look X.env s.heap m x u
 cell:∀x c,X.env.cells.lookup x=some c→∃v,s.heap.IsCell c v
 free:H X.env.locals=none
 freeC:∀x c,X.env.cells.lookup x=some c→H c=none
 pin:∀p∈X.pn++pins,s.heap.get? p.1=some p.2∧H p.1=none∧p.1≠X.env.locals∧p.1∉X.fs∧∀v,p.2.data≠.cell v
 hok:HOk X.prog X.w H s.heap
 len:σ.length=X.N.length
section
variable {X:Cx} {pins:List (Addr×Obj)} {σ:List (Option V)} {H H':Hp} {s:Shared} {h':Heap}
theorem Cx.Ok.nofr (ok:X.Ok) {b:Addr} {o:Obj} (e:X.base.get? b=some o):b∉X.fs:=λhb=>by
 have:=(ok.se.mem hb).1;rw[e] at this;cases this
theorem Inv.bs (I:Inv X pins σ H s):∀b o,X.base.get? b=some o→s.heap.get? b=some o∧H b=none:=λb o e=>
 ⟨I.base.keep b o (I.ok.bs b o e).1 (I.ok.bs b o e).2 (I.ok.nofr e) (I.ok.noex b o e),I.base.free b o (I.ok.bs b o e).1 (I.ok.bs b o e).2 (I.ok.noex b o e)⟩
theorem Inv.bk (I:Inv X pins σ H s):∀b o,X.base.get? b=some o→s.heap.get? b=some o:=λb o e=>(I.bs b o e).1
theorem Inv.mod (I:Inv X pins σ H s):Mod X.K X.mg X.base:=I.ok.mod
theorem Inv.kIn (I:Inv X pins σ H s):X.K.In s.heap:=I.ok.mod.kin.keeps I.bk
theorem Inv.lt (I:Inv X pins σ H s):X.env.locals < s.heap.objs.size:=let ⟨_,hn,_⟩:=I.loc;hn.lt
theorem Inv.sz (I:Inv X pins σ H s):X.s₀.heap.objs.size≤s.heap.objs.size:=Nat.le_trans I.ok.above (Nat.le_of_lt I.lt)
theorem Inv.nofs (I:Inv X pins σ H s) {a:Addr} (h:s.heap.objs.size≤a):a∉X.fs:=λhb=>by
 £⟨_,o,ho,_⟩:=I.ok.se.mem hb;§absurd (Nat.lt_of_lt_of_le (Heap.lt_size ho) (Nat.le_trans I.sz h)) (Nat.lt_irrefl _)
theorem Inv.cne (I:Inv X pins σ H s):∀x c,X.env.cells.lookup x=some c→c≠X.env.locals:=λx c e z=>by
 £⟨v,o,ho,hd⟩:=I.cell x c e;£⟨m,⟨o',es,ep,ho',hd',_⟩,_⟩:=I.loc;rw[z,ho'] at ho;cases ho;rw[hd'] at hd;cases hd
theorem Inv.se (I:Inv X pins σ H s):s.heap.FunFrames X.base X.outer:=by
 ¤all:∀(l:List Env),(∀b∈frs l,b∈X.fs)→X.s₀.heap.FunFrames X.base l→s.heap.FunFrames X.base l:=by
  ¿l;induction l with
  | nil=>intro _ _;trivial
  | cons env r ih=>
   ¿hs hl;£⟨hk,⟨L,o,hf,hn,ho,hd⟩,hr⟩:=hl;¤hL:L∈X.fs:=hs L (by unfold frs;rw[List.filterMap_cons,hf];§List.mem_cons_self);£⟨sl,e⟩:=I.base.slot L o ho (I.ok.frf L hL) hL λz=>I.ok.exfs L z hL;§⟨hk,⟨L,_,hf,hn,e,hd⟩,ih (λb hb=>hs b (by unfold frs;rw[List.filterMap_cons,hf];§List.mem_cons_of_mem _ hb)) hr⟩
 §all X.outer (λ_ hb=>hb) I.ok.se
theorem Inv.stack (I:Inv X pins σ H s):s.heap.FunFrames X.base X.stack:=by
 rcases I.ok.stk with e | ⟨e,hf⟩
 ·rw[e];§I.se
 ·rw[e];£⟨m,hn,_⟩:=I.loc;¶.cons (by rw[I.ok.kind];decide) hf hn ?_ I.se;§Heap.get?_none_of_le (Nat.le_trans I.ok.bsz I.ok.above)
theorem Inv.Eg (I:Inv X pins σ H s):∀b∈frs X.stack,b∈X.env.locals::X.fs:=λb hb=>by
 rcases I.ok.stk with e | ⟨e,hf⟩
 ·rw[e] at hb;§List.mem_cons_of_mem _ hb
 ·rw[e] at hb;unfold frs at hb;rw[List.filterMap_cons,hf] at hb;§hb
theorem Inv.Fw (I:Inv X pins σ H s):∀b∈frs X.stack,H b=none:=λb hb=>by
 rcases List.mem_cons.mp (I.Eg b hb) with e | hb
 ·rw[e];§I.free
 ·£⟨_,o,ho,_⟩:=I.ok.se.mem hb;§I.base.free b o ho (I.ok.frf b hb) λz=>I.ok.exfs b z hb
theorem Inv.step {g':Array GenState} {t':Nat} {d':Drawn} {ch:List Addr} (I:Inv X pins σ H s)
  (hch:∀b∈ch,(b∈X.ex∨X.s₀.heap.objs.size≤b)∧b≠X.env.locals∧(∀x c,X.env.cells.lookup x=some c→c≠b)∧∀p∈X.pn++pins,p.1≠b)
  (keep:∀b o,b≠X.env.locals→b∉X.fs→b∉ch→s.heap.get? b=some o→H b=none→h'.get? b=some o)
  (slot:∀b o,b≠X.env.locals→b∈X.fs→b∉ch→s.heap.get? b=some o→H b=none→∃sl,h'.get? b=some { o with slots:=sl }) (free:∀b o,b∉ch→s.heap.get? b=some o→H b=none→H' b=none)
  (there:∀b o,b∉ch→s.heap.get? b=some o→∃o',h'.get? b=some o')
  (rq:∀b xs,H b=some (.tup xs)→H' b=some (.tup xs)) (frzs:∀b o u,H b=some (.frz o u)→H' b=some (.frz o u)) (tbls:∀b ps,H b=some (.tbl ps)→∃more,H' b=some (.tbl (ps++more)))
  (ns:∀m,s.heap.Ns X.env.locals m→h'.Ns X.env.locals m) (hok:HOk X.prog X.w H' h') (hg:AllBare g'):
  Inv X pins σ H' { s with heap:=h',gens:=g',drawn:=d',toks:=t' }:=by
 ¤neL:∀b o,X.s₀.heap.get? b=some o→b≠X.env.locals:=λb o e=>Nat.ne_of_lt (Nat.lt_of_lt_of_le (Heap.lt_size e) I.ok.above);¤neC:∀b o,X.s₀.heap.get? b=some o→b∉X.ex→b∉ch:=λb o e hx hb=>by
  rcases (hch b hb).1 with z | z
  ·§hx z
  ·§absurd (Nat.lt_of_lt_of_le (Heap.lt_size e) z) (Nat.lt_irrefl _)
 ¤cellK:∀x c,X.env.cells.lookup x=some c→∀v,s.heap.IsCell c v→h'.IsCell c v:=λx c e v ⟨o,ho,hd⟩=>by
  ¤nch:c∉ch:=λz=>(hch c z).2.2.1 x c e rfl;¦hc:c∈X.fs
  ·£⟨sl,q⟩:=slot c o (I.cne x c e) hc nch ho (I.freeC x c e);§⟨_,q,hd⟩
  ·§⟨o,keep c o (I.cne x c e) hc nch ho (I.freeC x c e),hd⟩
 ¶⟨I.ok,I.os,hg,⟨λb o e n hb hx=>?_,λb o e n hb hx=>?_,λb o e n hx=>?_,λb o e hx=>?_,λb xs e=>rq b xs (I.base.rq b xs e),λb o xs e=>frzs b o xs (I.base.frzs b o xs e),λb ps e=>?_⟩,?_,λx c e=>?_,?_,λx c e=>?_,λp hp=>?_,hok,I.len⟩
 ·§keep b o (neL b o e) hb (neC b o e hx) (I.base.keep b o e n hb hx) (I.base.free b o e n hx)
 ·£⟨sl,e1⟩:=I.base.slot b o e n hb hx;£⟨sl',e2⟩:=slot b _ (neL b o e) hb (neC b o e hx) e1 (I.base.free b o e n hx);§⟨sl',e2⟩
 ·£⟨o',e1⟩:=I.base.there b o e hx;§free b o' (neC b o e hx) e1 (I.base.free b o e n hx)
 ·£⟨o',e1⟩:=I.base.there b o e hx;§there b o' (neC b o e hx) e1
 ·£⟨m1,e1⟩:=I.base.tbls b ps e;£⟨m2,e2⟩:=tbls b _ e1;§⟨m1++m2,by rw[e2,Array.append_assoc]⟩
 ·£⟨m,hn,hl⟩:=I.loc;¶⟨m,ns m hn,λi x v e1 e2 e3=>?_⟩;£⟨u,r,l⟩:=hl i x v e1 e2 e3;¶⟨u,r,?_⟩;rcases l with l | ⟨k,c,e,z⟩
  ·§.inl l
  ·§.inr ⟨k,c,e,cellK x c e _ z⟩
 ·£⟨v,z⟩:=I.cell x c e;§⟨v,cellK x c e v z⟩
 ·£⟨m,⟨o,_,_,ho,_⟩,_⟩:=I.loc;§free _ o (λz=>(hch _ z).2.1 rfl) ho I.free
 ·£⟨v,o,ho,hd⟩:=I.cell x c e;§free c o (λz=>(hch c z).2.2.1 x c e rfl) ho (I.freeC x c e)
 ·£⟨e,n,ne,nf,d⟩:=I.pin p hp;¤nch:p.1∉ch:=λz=>(hch p.1 z).2.2.2 p hp rfl;§⟨keep p.1 p.2 ne nf nch e n,free p.1 p.2 nch e n,ne,nf,d⟩
theorem Inv.un {t':Nat} (I:Inv X pins σ H s) (u:Un X.fs [] H H' s.heap h') (hok:HOk X.prog X.w H' h'):Inv X pins σ H' { s with heap:=h',toks:=t' }:=by
 £⟨m,⟨o,es,ep,ho,r⟩,_⟩:=id I.loc;£⟨sl,hL⟩:=u.any ho I.free (by simp);§I.step (g':=s.gens) (d':=s.drawn) (ch:=[]) (λ_ z=>nomatch z) (λb o _ hb _ e n=>u.keep b o e n hb (by simp)) (λb o _ hb _ e n=>u.slot b o e n hb (by simp)) (λb o _ e n=>u.free b o e n (by simp)) (λb o _ e=>u.there b o e (by simp)) u.rq u.frzs u.tbls (λm' hm=>by
  £⟨o',es',ep',ho',r'⟩:=hm;rw[ho] at ho';cases ho';§⟨_,es',ep',hL,r'⟩) hok I.bare
theorem Inv.call {g':Array GenState} {t':Nat} {d':Drawn} {ch:List Addr} (I:Inv X pins σ H s) (u:Un (frs X.stack) ch H H' s.heap h') (hok:HOk X.prog X.w H' h') (hg:AllBare g')
  (hch:∀b∈ch,(b∈X.ex∨X.s₀.heap.objs.size≤b)∧b≠X.env.locals∧(∀x c,X.env.cells.lookup x=some c→c≠b)∧∀p∈X.pn++pins,p.1≠b):
  Inv X pins σ H' { s with heap:=h',gens:=g',drawn:=d',toks:=t' }:=by
 £⟨m,⟨o,es,ep,ho,r⟩,_⟩:=id I.loc;£⟨sl,hL⟩:=u.any ho I.free λz=>(hch _ z).2.1 rfl;§I.step (ch:=ch) hch (λb o hL hb hc e n=>u.keep b o e n (λz=>(List.mem_cons.mp (I.Eg b z)).elim hL hb) hc) (λb o _ _ hc e n=>u.any e n hc) (λb o hc e n=>u.free b o e n hc) (λb o hc e=>u.there b o e hc) u.rq u.frzs u.tbls (λm' hm=>by
  £⟨o',es',ep',ho',r'⟩:=hm;rw[ho] at ho';cases ho';§⟨_,es',ep',hL,r'⟩) hok hg
theorem Inv.turned {t':Nat} {it:Addr} (I:Inv X pins σ H s) (k:∀b o,b≠it→s.heap.get? b=some o→h'.get? b=some o) (hn:H it=none) (hL:it≠X.env.locals)
  (h1:it∈X.ex∨X.s₀.heap.objs.size≤it) (h2:∀x c,X.env.cells.lookup x=some c→c≠it) (h3:∀p∈X.pn++pins,p.1≠it):Inv X pins σ H { s with heap:=h',toks:=t' }:=by
 ¤nit:∀b u,H b=some u→b≠it:=λb u e z=>by rw[z,hn] at e;cases e
 ¶I.step (g':=s.gens) (d':=s.drawn) (ch:=[it]) (λb hb=>?_) (λb o _ _ hc e _=>k b o (λz=>hc (by simp[z])) e) (λb o _ _ hc e _=>⟨o.slots,k b o (λz=>hc (by simp[z])) e⟩) (λ_ _ _ _ n=>n)
  (λb o hc e=>⟨o,k b o (λz=>hc (by simp[z])) e⟩) (λ_ _ e=>e) (λ_ _ _ e=>e) (λb ps e=>⟨#[],by rw[e];simp⟩) (λm hm=>?_) (λb u e=>?_) I.bare
 ·¤e:b=it:=by simpa using hb
  subst e;§⟨h1,hL,h2,h3⟩
 ·£⟨o,es,ep,ho,r⟩:=hm;§⟨o,es,ep,k _ o (Ne.symm hL) ho,r⟩
 ·¶(I.hok b u e).xn (λc v hc q=>k c v ?_ q) (λ_ q=>q) λ_ _ q=>q;rcases hc with z | z
  ·rw[z];§nit b u e
  ·§nit c _ z
theorem Inv.tok (I:Inv X pins σ H s) (t:Nat):Inv X pins σ H { s with toks:=t }:=I.un (h':=s.heap) (t':=t) Un.refl I.hok
theorem Inv.kept {t':Nat} (I:Inv X pins σ H s) (k:∀b u,s.heap.get? b=some u→h'.get? b=some u):Inv X pins σ H { s with heap:=h',toks:=t' }:=I.un (Un.kept k) (I.hok.kept k)
theorem Inv.laid {a:Addr} {o:HO} {t':Nat} (I:Inv X pins σ H s) (k:∀b u,s.heap.get? b=some u→h'.get? b=some u) (hp:s.heap.objs.size≤a) (new:br X.prog X.w (upd H a o) h' a o):
  Inv X pins σ (upd H a o) { s with heap:=h',toks:=t' }:=I.un (Un.laid k hp (I.hok.fresh hp)) (I.hok.laid k hp new)
theorem Inv.write {x e:Addr} {o:HO} {t':Nat} (I:Inv X pins σ H s) (mu:Mut (H x)) (he:e=x∨H e=some (.own x)) (k:∀b u,b≠e→s.heap.get? b=some u→h'.get? b=some u) (heo:∃u,h'.get? e=some u)
  (new:br X.prog X.w (upd H x o) h' x o):Inv X pins σ (upd H x o) { s with heap:=h',toks:=t' }:=I.un (Un.write mu he k heo) (I.hok.write mu he k heo new)
theorem Inv.Gg {pins':List (Addr×Obj)} (I:Inv X pins σ H s) (h:∀p∈pins',s.heap.get? p.1=some p.2∧H p.1=none∧p.1≠X.env.locals∧p.1∉X.fs∧∀v,p.2.data≠.cell v):Inv X pins' σ H s:=
 ⟨I.ok,I.os,I.bare,I.base,I.loc,I.cell,I.free,I.freeC,λp hp=>(List.mem_append.mp hp).elim (λz=>I.pin p (List.mem_append_left _ z)) (h p),I.hok,I.len⟩
theorem Bu {N:List Str} (hN:N.Nodup) {i j:Nat} {x:Str} (a:N[i]?=some x) (b:N[j]?=some x):i=j:=by
 £⟨h1,e1⟩:=List.getElem?_eq_some_iff.mp a;£⟨h2,e2⟩:=List.getElem?_eq_some_iff.mp b;§(List.getElem_inj hN).mp (e1.trans e2.symm)
theorem yj {M:Model} {A:Around} {E:Value→Shared→Prop} {i:Nat} {x:Str} {v:V} {u:Value} {Q:Unit→Shared→Prop} (I:Inv X pins σ H s) (hN:X.N.Nodup) (hi:X.N[i]?=some x) (hx:Loc X.env.scope x) (r:RelV v u)
  (h:∀s',Inv X pins (σ.set i (some v)) H s'→(∃a,Heap.SameBut a s.heap s'.heap∧(a=X.env.locals∨X.env.cells.lookup x=some a))→Q () s') (hf:X.fn x=true∨X.env.scope.names.lookup x=some .local:=by first | §.inl rfl | §.inr rfl | assumption):wpAny M A (storeName X.env x u) Q E s:=by
 £⟨m,hn,hl⟩:=id I.loc;¤hcls:(X.env.scope.kind==.class||(X.env.scope.kind==.module&&X.env.locals !=X.env.globals))=false:=by rw[I.ok.kind];rfl
 ¤hiσ:i < σ.length:=by rw[I.len];§(List.getElem?_eq_some_iff.mp hi).1
 ¤cne:=I.cne;¤tracked:∀{a:Addr} {h':Heap},(∃o,s.heap.get? a=some o∧H a=none)→Heap.SameBut a s.heap h'→HOk X.prog X.w H h':=λ{a h'} ha hs b ob e=>by
  £⟨_,_,hfree⟩:=ha;¶(I.hok b ob e).xn (λc w' hc q=>(hs.2 c ?_).trans q) (λ_ q=>q) λ_ _ q=>q;rintro rfl;rcases hc with rfl | hc
  ·rw[hfree] at e;cases e
  ·rw[hfree] at hc;cases hc
 rcases hx with hk | hk
 ·¶wpAny_storeName_local hk hn (λh' hn' hs=>?_) hcls;£⟨oL,_,_,hoL,_⟩:=id hn;¶h _ ⟨I.ok,I.os,I.bare,⟨λb o e n hb hx=>?_,λb o e n hb hx=>?_,I.base.free,λb o e hx=>?_,I.base.rq,I.base.frzs,I.base.tbls⟩,⟨_,hn',λj y v' e1 e2 e3=>?_⟩,λy c e=>?_,I.free,I.freeC,λp hp=>?_,tracked ⟨oL,hoL,I.free⟩ hs,by simpa using I.len⟩ ⟨_,hs,.inl rfl⟩
  ·§(hs.2 b (Nat.ne_of_lt (Nat.lt_of_lt_of_le (Heap.lt_size e) I.ok.above))).trans (I.base.keep b o e n hb hx)
  ·£⟨sl,e1⟩:=I.base.slot b o e n hb hx;§⟨sl,(hs.2 b (Nat.ne_of_lt (Nat.lt_of_lt_of_le (Heap.lt_size e) I.ok.above))).trans e1⟩
  ·£⟨o',e1⟩:=I.base.there b o e hx;§⟨o',(hs.2 b (Nat.ne_of_lt (Nat.lt_of_lt_of_le (Heap.lt_size e) I.ok.above))).trans e1⟩
  ·¦hj:j=i
   ·subst hj;rw[hi] at e1;cases e1;rw[List.getElem?_set_self hiσ] at e2;cases e2
    §⟨u,r,.inl ⟨hk,by simp⟩⟩
   ·rw[List.getElem?_set_ne (Ne.symm hj)] at e2;£⟨u',r',q⟩:=hl j y v' e1 e2 e3;¶⟨u',r',?_⟩;rcases q with ⟨k,e⟩ | ⟨k,c,e,z⟩
    ·¶.inl ⟨k,?_⟩;have:y≠x:=λe=>hj (Bu hN e1 (e ▸ hi));simp[this,e]
    ·§.inr ⟨k,c,e,z.sameBut hs (cne y c e)⟩
  ·£⟨w',z⟩:=I.cell y c e;§⟨w',z.sameBut hs (cne y c e)⟩
  ·£⟨e,n,ne,nf,d⟩:=I.pin p hp;§⟨(hs.2 p.1 ne).trans e,n,ne,nf,d⟩
 ·¤hfn:X.fn x=true:=by
   rcases hf with z | z
   ·§z
   ·rw[z] at hk;cases hk
  £⟨c,hc⟩:=I.ok.has x (.inl hk);£⟨w',z⟩:=I.cell x c hc;¶wpAny_storeName_cell I.ok.kind hk hc z (λh' hc' hs=>?_);£⟨oc,hoc,hocd⟩:=id z;¶h { s with heap:=h' } ⟨I.ok,I.os,I.bare,⟨λb o e n hb hx=>?_,λb o e n hb hx=>?_,I.base.free,λb o e hx=>?_,I.base.rq,I.base.frzs,I.base.tbls⟩,⟨m,hn.sameBut hs (Ne.symm (cne x c hc)),λj y v' e1 e2 e3=>?_⟩,λy c' e=>?_,I.free,I.freeC,λp hp=>?_,tracked ⟨oc,hoc,I.freeC x c hc⟩ hs,by simpa using I.len⟩ ⟨c,hs,.inr hc⟩
  ·§(hs.2 b (Nat.ne_of_lt (Nat.lt_of_lt_of_le (Heap.lt_size e) (I.ok.cab x c hfn hc)))).trans (I.base.keep b o e n hb hx)
  ·£⟨sl,e1⟩:=I.base.slot b o e n hb hx;§⟨sl,(hs.2 b (Nat.ne_of_lt (Nat.lt_of_lt_of_le (Heap.lt_size e) (I.ok.cab x c hfn hc)))).trans e1⟩
  ·£⟨o',e1⟩:=I.base.there b o e hx;§⟨o',(hs.2 b (Nat.ne_of_lt (Nat.lt_of_lt_of_le (Heap.lt_size e) (I.ok.cab x c hfn hc)))).trans e1⟩
  ·¦hj:j=i
   ·subst hj;rw[hi] at e1;cases e1;rw[List.getElem?_set_self hiσ] at e2;cases e2
    §⟨u,r,.inr ⟨.inl hk,c,hc,hc'⟩⟩
   ·rw[List.getElem?_set_ne (Ne.symm hj)] at e2;£⟨u',r',q⟩:=hl j y v' e1 e2 e3;¶⟨u',r',?_⟩;rcases q with q | ⟨k,c',e,z'⟩
    ·§.inl q
    ·¶.inr ⟨k,c',e,z'.sameBut hs ?_⟩;rintro rfl;§hj (Bu hN e1 (I.ok.inj _ _ _ e hc ▸ hi))
  ·¦hcc:c'=c
   ·subst hcc;§⟨_,hc'⟩
   ·£⟨w2,z2⟩:=I.cell y c' e;§⟨w2,z2.sameBut hs hcc⟩
  ·£⟨e,n,ne,nf,d⟩:=I.pin p hp;¶⟨(hs.2 p.1 ?_).trans e,n,ne,nf,d⟩;¿q;rw[q,hoc] at e;¤q':oc=p.2:=Option.some.inj e;§d w' (by rw[←q'];§hocd)
theorem Bq {M:Model} {A:Around} {E:Value→Shared→Prop} {i:Nat} {x:Str} {v:V} {u:Value} {Q:Unit→Shared→Prop} (I:Inv X pins σ H s) (hN:X.N.Nodup) (hi:X.N[i]?=some x) (hx:Loc X.env.scope x) (r:RelV v u)
  (h:∀s',Inv X pins (σ.set i (some v)) H s'→Q () s') (hf:X.fn x=true∨X.env.scope.names.lookup x=some .local:=by first | §.inl rfl | §.inr rfl | assumption):wpAny M A (storeName X.env x u) Q E s:=
 yj I hN hi hx r (λs' I' _=>h s' I') hf
theorem Inv.call' {s':Shared} {ch:List Addr} (I:Inv X pins σ H s) (ho:s'.os=s.os) (u:Un (frs X.stack) ch H H' s.heap s'.heap) (hok:HOk X.prog X.w H' s'.heap) (hg:AllBare s'.gens)
  (hch:∀b∈ch,(b∈X.ex∨X.s₀.heap.objs.size≤b)∧b≠X.env.locals∧(∀x c,X.env.cells.lookup x=some c→c≠b)∧∀p∈X.pn++pins,p.1≠b):Inv X pins σ H' s':=by
 £⟨h',g',d',t',o'⟩:=s';¤e:o'=s.os:=ho;subst e;§I.call (g':=g') (t':=t') (d':=d') u hok hg hch
end
abbrev XK:=Value→Option Addr→Hp→Prop
abbrev St:=List (Option V)
abbrev VK:=V→Hp→Prop
abbrev TE:=St→Hp→VK→Prop
abbrev TT:=St→Hp→(Bool→Hp→Prop)→Prop
abbrev TA:=St→Hp→(List V→Hp→Prop)→Prop
structure Ends where
 nx:St→Hp→Prop
 rt:VK
 bk:St→Hp→Prop:=λ_ _=>False
 ct:St→Hp→Prop:=λ_ _=>False
abbrev TS:=Ends→St→Hp→Prop
def EP (X:Cx) (pins:List (Addr×Obj)) (σ:St) (Q:VK) (u:Value) (s':Shared):Prop:=∃v H',Inv X pins σ H' s'∧RelV v u∧Q v H'
def TP (X:Cx) (pins:List (Addr×Obj)) (σ:St) (Q:Bool→Hp→Prop) (b:Bool) (s':Shared):Prop:=∃H',Inv X pins σ H' s'∧Q b H'
def AP (X:Cx) (pins:List (Addr×Obj)) (σ:St) (Q:List V→Hp→Prop) (us:List Value) (s':Shared):Prop:=∃vs H',Inv X pins σ H' s'∧Vals vs us∧Q vs H'
def SP (X:Cx) (pins:List (Addr×Obj)) (D:Ends) (f:Flow) (s':Shared):Prop:=
 match f with
 | .next=>∃σ' H',Inv X pins σ' H' s'∧D.nx σ' H'
 | .brk=>∃σ' H',Inv X pins σ' H' s'∧D.bk σ' H'
 | .cont=>∃σ' H',Inv X pins σ' H' s'∧D.ct σ' H'
 | .ret u=>∃v σ' H',Inv X pins σ' H' s'∧RelV v u∧D.rt v H'
def PE (X:Cx) (e:Expr) (t:TE):Prop:=
 ∀(pins:List (Addr×Obj)) (s:Shared) (σ:St) (H:Hp) (Q:VK),Inv X pins σ H s→t σ H Q→wpAny (model X.prog X.w) X.A (eval e X.env) (EP X pins σ Q) X.xe s
def PT (X:Cx) (e:Expr) (t:TT):Prop:=
 ∀(pins:List (Addr×Obj)) (s:Shared) (σ:St) (H:Hp) (Q:Bool→Hp→Prop),Inv X pins σ H s→t σ H Q→wpAny (model X.prog X.w) X.A (isTrue e X.env (eval e X.env)) (TP X pins σ Q) X.xe s
def PW (X:Cx) (e:Expr) (t:TT):Prop:=
 ∀(whole:Sem Value) (pins:List (Addr×Obj)) (s:Shared) (σ:St) (H:Hp) (Q:Bool→Hp→Prop),Inv X pins σ H s→t σ H Q→wpAny (model X.prog X.w) X.A (isTrue e X.env whole) (TP X pins σ Q) X.xe s
theorem PW.pt {X:Cx} {e:Expr} {t:TT} (h:PW X e t):PT X e t:=h _
def PA (X:Cx) (es:List Expr) (t:TA):Prop:=
 ∀(pos:Pos) (pins:List (Addr×Obj)) (s:Shared) (σ:St) (H:Hp) (Q:List V→Hp→Prop),Inv X pins σ H s→t σ H Q→wpAny (model X.prog X.w) X.A (spliced (backTo pos (starEach es X.env))) (AP X pins σ Q) X.xe s
def PS (X:Cx) (st:Stmt) (t:TS):Prop:=
 ∀(pins:List (Addr×Obj)) (s:Shared) (σ:St) (H:Hp) (D:Ends),Inv X pins σ H s→t D σ H→wpAny (model X.prog X.w) X.A (exec st X.env) (SP X pins D) X.xe s
def PSs (X:Cx) (st:List Stmt) (t:TS):Prop:=
 ∀(pins:List (Addr×Obj)) (s:Shared) (σ:St) (H:Hp) (D:Ends),Inv X pins σ H s→t D σ H→wpAny (model X.prog X.w) X.A (execs st X.env) (SP X pins D) X.xe s
theorem thn {α:Type} {t:Sem α} {Q Q':α→Shared→Prop} {M:Model} {A:Around} {E:Value→Shared→Prop} {s:Shared} (h:wpAny M A t Q E s) (hQ:∀a s,Q a s→Q' a s):wpAny M A t Q' E s:=wpAny_mono h hQ λ_ _ x=>x
end L2
namespace L2
open PySem PySem.Spec PyProof.Rows
section
variable {X:Cx}
def tVar (i:Nat):TE:=λσ H Q=>∃v,σ[i]?=some (some v)∧Q v H
def tC (v:V):TE:=λ_ H Q=>Q v H
theorem pe_var {i:Nat} {x:Str} {pos:Pos} (hN:X.N[i]?=some x) (hv:Vis X.env.scope x) (hd:(x==("__debug__":Str))=false:=by decide) (hcd:(x==("__classdict__":Str))=false:=by decide):PE X (.Name x pos) (tVar i):=by
 ¿pins s σ H Q I h;£⟨v,e,h⟩:=h;£⟨m,hn,hl⟩:=I.loc;£⟨u,r,l⟩:=hl i x v hN e hv;¤fin:EP X pins σ Q u s:=⟨v,H,I,r,h⟩;rcases l with ⟨hk,hm⟩ | ⟨hk,c,hc,hcell⟩
 ·§wpAny_Name (wpAny_loadName_local I.ok.kind hk hn hm fin) hd
 ·rcases hk with hk | hk
  ·§wpAny_Name (wpAny_loadName_cell I.ok.kind hk hc hcell fin) hd
  ·§wpAny_Name (wpAny_loadName_free I.ok.kind hk hc hcell fin hcd) hd
theorem L3 {i j pos}:PE X (.Constant (.int i) j pos) (tC (.int i)):=λ_ _ _ H _ I h=>wpAny_Constant_int ⟨.int i,H,I.tok _,⟨_,rfl⟩,h⟩
theorem pe_bl {b j pos}:PE X (.Constant (.bool b) j pos) (tC (.bl b)):=λ_ _ _ H _ I h=>Constant_bool ⟨.bl b,H,I,rfl,h⟩
theorem Ed {j pos}:PE X (.Constant .none j pos) (tC .non):=λ_ _ _ H _ I h=>Constant_none ⟨.non,H,I,rfl,h⟩
theorem K2 {x j pos}:PE X (.Constant (.str x) j pos) (tC (.str x)):=λ_ _ _ H _ I h=>Calls.Constant_str ⟨.str x,H,I.tok _,⟨_,rfl⟩,h⟩
def Gl (X:Cx) (x:Str):Prop:=X.env.kindOf x=some .globalImplicit
theorem Gu {E:Value→Shared→Prop} {pins:List (Addr×Obj)} {s:Shared} {σ:St} {H:Hp} {x:Str} {u:Value} {pos:Pos} {Q:Value→Shared→Prop} (I:Inv X pins σ H s) (hg:Gl X x) (hm:X.mg x=some u) (h:Q u s)
  (hd:(x==("__debug__":Str))=false:=by decide):wpAny (model X.prog X.w) X.A (eval (.Name x pos) X.env) Q E s:=
 Calls.Name_function_global I.ok.kind hg (Calls.loadGlobal_global (by rw[I.ok.glob];§I.mod.glob.keeps I.bk) hm h) hd
theorem jq {E:Value→Shared→Prop} {pins:List (Addr×Obj)} {s:Shared} {σ:St} {H:Hp} {x:Str} {u:Value} {pos:Pos} {Q:Value→Shared→Prop} (I:Inv X pins σ H s) (hg:Gl X x) (hm:X.mg x=none) (hv:bootBuiltins x=some u) (h:Q u s)
  (hn:x≠"__name__":=by decide) (hd:(x==("__debug__":Str))=false:=by decide):wpAny (model X.prog X.w) X.A (eval (.Name x pos) X.env) Q E s:=by
 £⟨mb,h1,h2⟩:=I.mod.blt;§Calls.Name_function_global I.ok.kind hg (Calls.loadGlobal_builtin (by rw[I.ok.glob];§I.mod.glob.keeps I.bk) hm (by rw[I.ok.blt];§h1.keeps I.bk) ((h2 x hn).trans hv) h) hd
theorem Nt {x:Str} {v:V} {u:Value} {pos:Pos} (hg:Gl X x) (hm:X.mg x=some u) (r:RelV v u) (hd:(x==("__debug__":Str))=false:=by decide):PE X (.Name x pos) (tC v):=
 λ_ _ _ H _ I h=>Gu I hg hm ⟨v,H,I,r,h⟩ hd
theorem Pb {x:Str} {v:V} {u:Value} {pos:Pos} (hg:Gl X x) (hm:X.mg x=none) (hv:bootBuiltins x=some u) (r:RelV v u) (hn:x≠"__name__":=by decide) (hd:(x==("__debug__":Str))=false:=by decide):PE X (.Name x pos) (tC v):=
 λ_ _ _ H _ I h=>jq I hg hm hv ⟨v,H,I,r,h⟩ hn hd
variable {a b:Expr} {ta tb:TE} {pos:Pos}
def PC (X:Cx) (op:CmpOp) (a b:Expr) (t:TE):Prop:=
 ∀(pins:List (Addr×Obj)) (s:Shared) (σ:St) (H:Hp) (Q:VK),Inv X pins σ H s→t σ H Q→
  wpAny (model X.prog X.w) X.A (eval a X.env) (λv s₁=>wpAny (model X.prog X.w) X.A (eval b X.env) (λu s₂=>wpAny (model X.prog X.w) X.A (compareOp op v u) (EP X pins σ Q) X.xe s₂) X.xe s₁) X.xe s
theorem fw (b:Expr) {op:CmpOp} (h:op≠.In) (h2:op≠.NotIn):behindInMarks op b=false:=by
 ¤e1:(op==CmpOp.In)=false:=by cases op <;> first | rfl | §absurd rfl h
 ¤e2:(op==CmpOp.NotIn)=false:=by cases op <;> first | rfl | §absurd rfl h2
 cases b <;> simp[behindInMarks,e1,e2]
def vt (ta:TE):TE:=λσ H Q=>ta σ H λx H1=>Q (.bl (!decide (x=.non))) H1
theorem RelV.Ke {x:V} {v:Value} (r:RelV x v):(v==Value.none)=decide (x=.non):=by
 cases x with
 | non=>cases r;rfl
 | bl _=>cases r;rfl
 | int _=>£⟨t,rfl⟩:=r;rfl
 | str _=>£⟨t,rfl⟩:=r;rfl
 | byt _=>£⟨t,rfl⟩:=r;rfl
 | flt _=>£⟨t,rfl⟩:=r;rfl
 | ref _=>cases r;rfl
 | ty _=>cases r;rfl
theorem zf {j pos'} (ha:PE X a ta):PC X .IsNot a (.Constant .none j pos') (vt ta):=by
 ¿pins s σ H Q I h;¶thn (ha pins s σ H _ I h) λv s1 ⟨x,H1,I1,r1,q1⟩=>?_;§Constant_none (isnot_none_gen ⟨.bl _,H1,I1,by rw[r1.Ke];rfl,q1⟩)
def tB (t:TE):TT:=λσ H Q=>t σ H λx H1=>∃c,x=.bl c∧Q c H1
theorem pt_cmp {op:CmpOp} {t:TE} (h:PC X op a b t) (h1:behindInMarks op b=false:=by first | §fw _ (by decide) (by decide) | rfl):PT X (.Compare a [op] [b] pos) (tB t):=by
 ¿pins s σ H Q I hw;¶wpAny_isTrue_Compare1 (thn (h pins s σ H _ I hw) λv s1 h1=>thn h1 λu s2 h2=>thn h2 λc s3 ⟨x,H1,I1,r1,q1⟩=>?_) h1;£⟨d,rfl,q⟩:=q1;cases r1
 §wpAny_truthy_bool ⟨H1,I1,q⟩
theorem pt_val {e:Expr} {t:TE} (h:PE X e t) (he:∀whole,isTrue e X.env whole=(do let v ←whole;standAt e.pos;holding [v] (truthy v)):=by ¿_;rfl):PT X e (tB t):=by
 ¿pins s σ H Q I hw;¶isTrue_plain (thn (h pins s σ H _ I hw) λv s1 ⟨x,H1,I1,r1,q1⟩=>?_) (he _);£⟨d,rfl,q⟩:=q1;cases r1
 §wpAny_truthy_bool ⟨H1,I1,q⟩
variable {tA tB':TT} {rest:List Expr}
def tAnd (t u:TT):TT:=λσ H Q=>t σ H λc H1=>if c=true then u σ H1 Q else Q false H1
def tOr (t u:TT):TT:=λσ H Q=>t σ H λc H1=>if c=true then Q true H1 else u σ H1 Q
def tNot (t:TT):TT:=λσ H Q=>t σ H λc H1=>Q (!c) H1
theorem Pp (ha:PT X a tA):PW X (.BoolOp .And [a] pos) tA:=by
 ¿wh pins s σ H Q I h;¶isTrue_and (thn (ha pins s σ H Q I h) λc s1 e=>?_);cases c with
 | true=>§isTrue_and_nil e
 | false=>§e
theorem pw_or1 (ha:PT X a tA):PW X (.BoolOp .Or [a] pos) tA:=by
 ¿wh pins s σ H Q I h;¶isTrue_or (thn (ha pins s σ H Q I h) λc s1 e=>?_);cases c with
 | false=>§isTrue_or_nil e
 | true=>§e
theorem pw_and (ha:PT X a tA) (hb:PW X (.BoolOp .And (b::rest) pos) tB'):PW X (.BoolOp .And (a::b::rest) pos) (tAnd tA tB'):=by
 ¿wh pins s σ H Q I h;¶isTrue_and (thn (ha pins s σ H _ I h) λc s1 ⟨H1,I1,q1⟩=>?_);cases c with
 | true=>§hb wh pins s1 σ H1 Q I1 q1
 | false=>§⟨H1,I1,q1⟩
theorem pw_or (ha:PT X a tA) (hb:PW X (.BoolOp .Or (b::rest) pos) tB'):PW X (.BoolOp .Or (a::b::rest) pos) (tOr tA tB'):=by
 ¿wh pins s σ H Q I h;¶isTrue_or (thn (ha pins s σ H _ I h) λc s1 ⟨H1,I1,q1⟩=>?_);cases c with
 | true=>§⟨H1,I1,q1⟩
 | false=>§hb wh pins s1 σ H1 Q I1 q1
theorem Dz (ha:PT X a tA):PT X (.UnaryOp .Not a pos) (tNot tA):=by
 ¿pins s σ H Q I h;§isTrue_not (ha pins s σ H (λc H1=>Q (!c) H1) I h)
def tAndV (ta tb:TE):TE:=λσ H Q=>ta σ H λx H1=>∃c,x=.bl c∧if c=true then tb σ H1 Q else Q (.bl false) H1
def tOrV (ta tb:TE):TE:=λσ H Q=>ta σ H λx H1=>∃c,x=.bl c∧if c=true then Q (.bl true) H1 else tb σ H1 Q
def tNotV (ta:TE):TE:=λσ H Q=>ta σ H λx H1=>∃c,x=.bl c∧Q (.bl (!c)) H1
theorem pe_one {op} {t:TE} (h:PE X a t):PE X (.BoolOp op [a] pos) t:=λpins s σ H Q I hw=>BoolOp_one (h pins s σ H Q I hw)
theorem pe_and (ha:PE X a ta) (hb:PE X (.BoolOp .And (b::rest) pos) tb):PE X (.BoolOp .And (a::b::rest) pos) (tAndV ta tb):=by
 ¿pins s σ H Q I h;¶BoolOp_and (thn (ha pins s σ H _ I h) λv s1 ⟨x,H1,I1,r1,q1⟩=>?_);£⟨c,rfl,q1⟩:=q1;cases r1
 ¶wpAny_truthy_bool ?_;cases c with
 | true=>§hb pins s1 σ H1 Q I1 q1
 | false=>§⟨.bl false,H1,I1,rfl,q1⟩
theorem pe_not (ha:PE X a ta):PE X (.UnaryOp .Not a pos) (tNotV ta):=by
 ¿pins s σ H Q I h;¶UnaryOp_ (thn (ha pins s σ H _ I h) λv s1 ⟨x,H1,I1,r1,q1⟩=>?_);£⟨c,rfl,q1⟩:=q1;cases r1
 §not_of (wpAny_truthy_bool ⟨.bl (!c),H1,I1,rfl,q1⟩)
def tIf (t:TT) (ta tb:TE):TE:=λσ H Q=>t σ H λc H1=>if c=true then ta σ H1 Q else tb σ H1 Q
theorem Le {c:Expr} (hc:PT X c tA) (ha:PE X a ta) (hb:PE X b tb):PE X (.IfExp c a b pos) (tIf tA ta tb):=by
 ¿pins s σ H Q I h;¶wpAny_IfExp (thn (hc pins s σ H _ I h) λd s1 ⟨H1,I1,q1⟩=>?_);cases d with
 | true=>§ha pins s1 σ H1 Q I1 q1
 | false=>§hb pins s1 σ H1 Q I1 q1
end
end L2
namespace L2
open PySem PySem.Spec PyProof.Rows
def SqL (K:PySem.W.Frag) (H:Hp) (a:Addr) (xs:List V):Prop:=
 Rd H a (.lst xs)∨
  ∃(o:Obj) (its:Array Value) (n:Nat),K.lookup a=some o∧o.cls=.type "list"∧o.dict=none∧o.data=.seq its n∧its.size≤sizeLine∧Vals xs its.toList
def SqT (K:PySem.W.Frag) (H:Hp) (a:Addr) (xs:List V):Prop:=
 Rd H a (.tup xs)∨
  ∃(o:Obj) (its:Array Value) (n:Nat),K.lookup a=some o∧o.cls=.type "tuple"∧o.data=.seq its n∧its.size≤sizeLine∧Vals xs its.toList
noncomputable def absV:Value→Option V
 | .none=>some .non
 | .bool b=>some (.bl b)
 | .int i _=>some (.int i)
 | .str x _=>some (.str x)
 | .bytes b _=>some (.byt b)
 | .float b _=>some (.flt b)
 | .ref a=>some (.ref a)
 | .type n=>some (.ty n)
 | _=>none
theorem RelV.abs {x:V} {u:Value} (r:RelV x u):absV u=some x:=by
 cases x with
 | non=>cases r;rfl
 | bl _=>cases r;rfl
 | int _=>£⟨t,rfl⟩:=r;rfl
 | str _=>£⟨t,rfl⟩:=r;rfl
 | byt _=>£⟨t,rfl⟩:=r;rfl
 | flt _=>£⟨t,rfl⟩:=r;rfl
 | ref _=>cases r;rfl
 | ty _=>cases r;rfl
theorem RelV.inj {x y:V} {u:Value} (r:RelV x u) (q:RelV y u):x=y:=Option.some.inj (r.abs.symm.trans q.abs)
theorem Vals.inj:∀{xs ys:List V} {us:List Value},Vals xs us→Vals ys us→xs=ys
 | _,_,_,.nil,.nil=>rfl
 | _,_,_,.cons r t,.cons r' t'=>by rw[r.inj r',Vals.inj t t']
section
variable {X:Cx} {pins:List (Addr×Obj)} {σ:St} {H:Hp} {s:Shared} {a:Addr} {xs ys:List V}
theorem SqL.of {K:PySem.W.Frag} (h:H a=some (.lst xs)):SqL K H a xs:=.inl (.inl h)
theorem SqT.of {K:PySem.W.Frag} (h:H a=some (.tup xs)):SqT K H a xs:=.inl (.inl h)
theorem Inv.list (I:Inv X pins σ H s) (h:SqL X.K H a xs):∃its:List Value,Vals xs its∧PlainL s.heap a its.toArray∧xs.length≤sizeLine:=by
 rcases h with h | ⟨o,its,n,hk,hc,hd,hs,hz,r⟩
 ·£⟨z,its,n,r,e⟩:=h.ok I.hok;§⟨its,r,⟨_,n,e,rfl,rfl,rfl⟩,z⟩
 ·¶⟨its.toList,r,⟨o,n,I.kIn a o hk,hc,hd,by simpa using hs⟩,?_⟩;¤e:=r.length;simp only[Array.length_toList] at e;¡
theorem Inv.tuple (I:Inv X pins σ H s) (h:SqT X.K H a xs):∃its:List Value,Vals xs its∧IsTup s.heap a its.toArray∧xs.length≤sizeLine:=by
 rcases h with h | ⟨o,its,n,hk,hc,hs,hz,r⟩
 ·£⟨z,its,r,p⟩:=h.ok I.hok;§⟨its,r,p.tup,z⟩
 ·¶⟨its.toList,r,⟨o,I.kIn a o hk,hc,n,by simpa using hs⟩,?_⟩;¤e:=r.length;simp only[Array.length_toList] at e;¡
theorem Inv.vh (I:Inv X pins σ H s) (h:SqL X.K H a xs) (h':SqL X.K H a ys):xs=ys:=by
 £⟨its,r,⟨o,n,e,_,_,d⟩,_⟩:=I.list h;£⟨its',r',⟨o',n',e',_,_,d'⟩,_⟩:=I.list h';rw[e] at e';cases e';rw[d] at d';injection d' with d1 _
 have:its=its':=by simpa using congrArg Array.toList d1
 subst this;§r.inj r'
theorem Inv.xx (I:Inv X pins σ H s) (h:SqT X.K H a xs) (h':SqT X.K H a ys):xs=ys:=by
 £⟨its,r,⟨o,e,_,n,d⟩,_⟩:=I.tuple h;£⟨its',r',⟨o',e',_,n',d'⟩,_⟩:=I.tuple h';rw[e] at e';cases e';rw[d] at d';injection d' with d1 _
 have:its=its':=by simpa using congrArg Array.toList d1
 subst this;§r.inj r'
end
noncomputable abbrev Cx.xh (X:Cx) (E:Value→Shared→Prop):Cx:={ X with xe:=E }
noncomputable abbrev Cx.nox (X:Cx):Cx:=X.xh λ_ _=>False
theorem Cx.Ok.xh {X:Cx} (ok:X.Ok) (E:Value→Shared→Prop):(X.xh E).Ok:=
 ⟨ok.mod,ok.kind,ok.glob,ok.blt,ok.above,ok.inj,ok.has,ok.cab,ok.hd,ok.frames,ok.stk,ok.exf,ok.bs,ok.bsz,ok.noex,ok.exfs,ok.se,ok.frf⟩
theorem Cx.Ok.j8 {X:Cx} {E:Value→Shared→Prop} (ok:(X.xh E).Ok):X.Ok:=
 ⟨ok.mod,ok.kind,ok.glob,ok.blt,ok.above,ok.inj,ok.has,ok.cab,ok.hd,ok.frames,ok.stk,ok.exf,ok.bs,ok.bsz,ok.noex,ok.exfs,ok.se,ok.frf⟩
section
variable {X:Cx} {pins:List (Addr×Obj)} {σ:St} {H:Hp} {s:Shared} {E:Value→Shared→Prop}
theorem Inv.xh (I:Inv X pins σ H s) (E:Value→Shared→Prop):Inv (X.xh E) pins σ H s:=⟨I.ok.xh E,I.os,I.bare,I.base,I.loc,I.cell,I.free,I.freeC,I.pin,I.hok,I.len⟩
theorem Inv.j8 (I:Inv (X.xh E) pins σ H s):Inv X pins σ H s:=⟨I.ok.j8,I.os,I.bare,I.base,I.loc,I.cell,I.free,I.freeC,I.pin,I.hok,I.len⟩
theorem SP.j8 {D:Ends} {f:Flow} {s':Shared} (h:SP (X.xh E) pins D f s'):SP X pins D f s':=by
 cases f with
 | next=>£⟨σ',H',I,q⟩:=h;§⟨σ',H',I.j8,q⟩
 | brk=>£⟨σ',H',I,q⟩:=h;§⟨σ',H',I.j8,q⟩
 | cont=>£⟨σ',H',I,q⟩:=h;§⟨σ',H',I.j8,q⟩
 | ret u=>£⟨v,σ',H',I,r,q⟩:=h;§⟨v,σ',H',I.j8,r,q⟩
theorem PSs.nox {st:List Stmt} {t:TS} (h:PSs X.nox st t):PSs X st t:=λpins s σ H D I hw=>
 wpAny_mono (h pins s σ H D (I.xh _) hw) (λ_ _ q=>q.j8) λ_ _ z=>False.elim z
end
section
variable {X:Cx} {st:Stmt} {rest:List Stmt} {t u:TS} {e:Expr} {te:TE} {pos:Pos}
def tNext:TS:=λD σ H=>D.nx σ H
def tSeq (t u:TS):TS:=λD σ H=>t { D with nx:=u D } σ H
theorem O9:PSs X [] tNext:=λ_ _ σ H _ I h=>wpAny_execs_nil ⟨σ,H,I,h⟩
theorem La (h1:PS X st t) (h2:PSs X rest u):PSs X (st::rest) (tSeq t u):=by
 ¿pins s σ H D I h;¶wpAny_execs_cons (thn (h1 pins s σ H { D with nx:=u D } I h) λf s1 q=>?_);cases f with
 | next=>
  £⟨σ',H',I',q⟩:=q;§h2 pins s1 σ' H' D I' q
 | ret v=>§q
 | brk=>§q
 | cont=>§q
theorem Qb (h1:PS X st t):PSs X [st] t:=by
 ¿pins s σ H D I h;¶wpAny_execs_cons (thn (h1 pins s σ H D I h) λf s1 q=>?_);cases f with
 | next=>§wpAny_execs_nil q
 | ret v=>§q
 | brk=>§q
 | cont=>§q
def tCont:TS:=λD σ H=>D.ct σ H
theorem Cu:PS X (.Continue pos) tCont:=λ_ _ σ H _ I h=>wpAny_Continue ⟨σ,H,I,h⟩
theorem Inv.quiet {pins:List (Addr×Obj)} {σ:St} {H:Hp} {s:Shared} (I:Inv X pins σ H s):interactive X.env=false:=by simp[interactive,I.ok.kind]
def tDrop (te:TE):TS:=λD σ H=>te σ H λ_ H1=>D.nx σ H1
theorem Oe (he:PE X e te) (hs:swapsWith e none pos.line X.env=pure false:=by rfl):PS X (.Expr e pos) (tDrop te):=by
 ¿pins s σ H D I h;§wpAny_Expr_any (thn (he pins s σ H _ I h) λv s1 ⟨x,H1,I1,r1,q1⟩=>⟨σ,H1,I1,q1⟩) I.quiet hs
def tRet (te:TE):TS:=λD σ H=>te σ H D.rt
theorem ps_ret (he:PE X e te):PS X (.Return (some e) pos) (tRet te):=by
 ¿pins s σ H D I h;§wpAny_Return_some (thn (he pins s σ H _ I h) λv s1 ⟨x,H1,I1,r1,q1⟩=>⟨x,σ,H1,I1,r1,q1⟩)
def tRetN:TS:=λD _ H=>D.rt .non H
def tIfS (c:TT) (t u:TS):TS:=λD σ H=>c σ H λb H1=>if b=true then t D σ H1 else u D σ H1
theorem ps_if {c:Expr} {a b:List Stmt} {tc:TT} (hc:PT X c tc) (ha:PSs X a t) (hb:PSs X b u):PS X (.If c a b pos) (tIfS tc t u):=by
 ¿pins s σ H D I h;¶wpAny_If (thn (hc pins s σ H _ I h) λd s1 ⟨H1,I1,q1⟩=>?_);cases d with
 | true=>§ha pins s1 σ H1 D I1 q1
 | false=>§hb pins s1 σ H1 D I1 q1
end
abbrev TG:=V→St→Hp→(St→Hp→Prop)→Prop
abbrev TGs:=List V→St→Hp→(St→Hp→Prop)→Prop
def PG (X:Cx) (target:Expr) (t:TG):Prop:=
 ∀(pins:List (Addr×Obj)) (s:Shared) (σ:St) (H:Hp) (v:V) (u:Value) (Q:St→Hp→Prop),Inv X pins σ H s→RelV v u→t v σ H Q→
  wpAny (model X.prog X.w) X.A (assign target X.env u) (λ_ s'=>∃σ' H',Inv X pins σ' H' s'∧Q σ' H') X.xe s
def PGs (X:Cx) (ts:List Expr) (t:TGs):Prop:=
 ∀(pins:List (Addr×Obj)) (s:Shared) (σ:St) (H:Hp) (vs:List V) (us:List Value) (Q:St→Hp→Prop),Inv X pins σ H s→Vals vs us→t vs σ H Q→
  wpAny (model X.prog X.w) X.A (assignInOrder ((assignEach ts X.env).map (·.2)) us) (λ_ s'=>∃σ' H',Inv X pins σ' H' s'∧Q σ' H') X.xe s
abbrev TSet:=V→V→V→Hp→(Hp→Prop)→Prop
def PSet (X:Cx) (t:TSet):Prop:=
 ∀(pins:List (Addr×Obj)) (s:Shared) (σ:St) (H:Hp) (o i v:V) (ov iv u:Value) (Q:Hp→Prop),Inv X pins σ H s→RelV o ov→RelV i iv→RelV v u→t o i v H Q→
  wpAny (model X.prog X.w) X.A (setItem ov iv u) (λ_ s'=>∃H',Inv X pins σ H' s'∧Q H') X.xe s
section
variable {X:Cx} {pos:Pos}
def cj (i:Nat):TG:=λv σ H Q=>Q (σ.set i (some v)) H
theorem Fc {i:Nat} {x:Str} (hN:X.N.Nodup) (hi:X.N[i]?=some x) (hx:Loc X.env.scope x) (hf:X.fn x=true∨X.env.scope.names.lookup x=some .local:=by first | §.inl rfl | §.inr rfl | assumption):PG X (.Name x pos) (cj i):=by
 ¿pins s σ H v u Q I r h;§wpAny_assign_Name (Bq I hN hi hx r (λs' I'=>⟨_,H,I',h⟩) hf)
def gNil:TGs:=λvs σ H Q=>vs=[]∧Q σ H
def fq (t:TG) (u:TGs):TGs:=λvs σ H Q=>∃v r,vs=v::r∧t v σ H λσ' H'=>u r σ' H' Q
theorem Oa:PGs X [] gNil:=by
 ¿pins s σ H vs us Q I r h;£⟨e,h⟩:=h;subst e;cases r
 §assignInOrder_nil ⟨σ,H,I,h⟩
theorem J2 {e:Expr} {es:List Expr} {t:TG} {u:TGs} (h1:PG X e t) (h2:PGs X es u)
  (hs:(assignEach (e::es) X.env).map (·.2)=assign e X.env::(assignEach es X.env).map (·.2):=by rfl):PGs X (e::es) (fq t u):=by
 ¿pins s σ H vs us Q I r h;£⟨v,vr,e1,h⟩:=h;subst e1;cases r with
 | cons r rr=>
  rw[hs];¶assignInOrder_cons (thn (h1 pins s σ H _ _ _ I r h) λ_ s1 ⟨σ1,H1,I1,q1⟩=>?_);§h2 pins s1 σ1 H1 _ _ Q I1 rr q1
def Ew (K:PySem.W.Frag) (n:Nat) (t:TGs):TG:=λv σ H Q=>∃a xs,v=.ref a∧SqT K H a xs∧xs.length=n∧t xs σ H Q
theorem Lr {es:List Expr} {k:Nat} {t:TGs} {n:Nat} (hc:X.calm=true) (h:PGs X es t)
  (hn:(assignEach es X.env).length=n:=by rfl) (hst:(assignEach es X.env).findIdx? (·.1)=none:=by rfl):PG X (.Tuple es k pos) (Ew X.K n t):=by
 ¿pins s σ H v u Q I r hw;£⟨a,xs,e1,hq,hl,hw⟩:=hw;subst e1;cases r
 £⟨its,rv,ht,hz⟩:=I.tuple hq;¶assign_Tuple_tuple (I.ok.hd hc) ht (by simp[hn,←hl,rv.length]) hst λh' hx=>?_;¤I1:Inv X pins σ H { s with heap:=h' }:=I.kept (t':=s.toks) λb o e=>hx b o (Nat.ne_of_lt (Heap.lt_size e)) e;§h pins _ σ H xs _ Q I1 (by simpa using rv) hw
def gSub (to ti:TE) (t:TSet):TG:=λv σ H Q=>to σ H λo H1=>ti σ H1 λi H2=>t o i v H2 λH3=>Q σ H3
theorem pg_sub {o i:Expr} {to ti:TE} {t:TSet} (ho:PE X o to) (hi:PE X i ti) (hs:PSet X t)
  (ha:∀v,assign (.Subscript o i pos) X.env v=(do
   let ov ←holding [v] (eval o X.env)
   let iv ←holding [v,ov] (eval i X.env)
   standAt pos
   holding [v,ov,iv] (setItem ov iv v)
   release [v,ov,iv] []):=by ¿_;rfl):PG X (.Subscript o i pos) (gSub to ti t):=by
 ¿pins s σ H v u Q I r h;rw[ha];¶wpAny_bind (wpAny_holding (thn (ho pins s σ H _ I h) λov s1 ⟨x,H1,I1,r1,q1⟩=>?_));¶wpAny_bind (wpAny_holding (thn (hi pins s1 σ H1 _ I1 q1) λiv s2 ⟨y,H2,I2,r2,q2⟩=>?_));¶wpAny_bind (wpAny_standAt (wpAny_bind (wpAny_holding (thn (hs pins s2 σ H2 x y v ov iv u _ I2 r1 r2 r q2) λ_ s3 ⟨H3,I3,q3⟩=>?_))));§wpAny_release ⟨σ,H3,I3,q3⟩
def tAsg (te:TE) (g:TG):TS:=λD σ H=>te σ H λx H1=>g x σ H1 D.nx
theorem ps_asg {tg e:Expr} {te:TE} {g:TG} (he:PE X e te) (hg:PG X tg g) (hs:swapsWithSole [tg] e pos.line X.env=pure false:=by rfl) (hw:swappedStores [tg] e X.env=pure none:=by rfl)
  (h1:(assignEach [tg] X.env).map (·.2)=[assign tg X.env]:=by rfl):PS X (.Assign [tg] e pos) (tAsg te g):=by
 ¿pins s σ H D I h;¶wpAny_Assign_stores (thn (he pins s σ H _ I h) λv s1 ⟨x,H1,I1,r1,q1⟩=>?_) hs hw;rw[h1];§thn (hg pins s1 σ H1 x v _ I1 r1 q1) λ_ s2 q=>q
theorem Lb {i:Nat} {x:Str} {e:Expr} {te:TE} {pos':Pos} (hN:X.N.Nodup) (hi:X.N[i]?=some x) (hx:Loc X.env.scope x) (he:PE X e te) (hs:swapsWith e (some (.Name x pos')) pos.line X.env=pure false:=by rfl) (hf:X.fn x=true∨X.env.scope.names.lookup x=some .local:=by first | §.inl rfl | §.inr rfl | assumption):
  PS X (.Assign [.Name x pos'] e pos) (tAsg te (cj i)):=by
 ¿pins s σ H D I h;¶wpAny_Assign_Name (thn (he pins s σ H _ I h) λv s1 ⟨y,H1,I1,r1,q1⟩=>?_) hs;§Bq I1 hN hi hx r1 (λs2 I2=>⟨_,H1,I2,q1⟩) hf
end
section
variable {X:Cx} {pos:Pos}
def K9 (c:TT) (tb:TS):TS:=λD σ H=>∃W:Nat→St→Hp→Prop,(∃m,W m σ H)∧∀m σ H,W m σ H→
 c σ H λb H1=>if b=true then ∃N:St→Hp→Prop,(∀σ' H',N σ' H'→∃m',m' < m∧W m' σ' H')∧tb { D with nx:=N,ct:=N,bk:=D.nx } σ H1 else D.nx σ H1
theorem Jp {c:Expr} {body:List Stmt} {tc:TT} {tb:TS} (hp:PassesOwn (model X.prog X.w) X.A X.env X.xe) (hc:PT X c tc) (hb:PSs X body tb):PS X (.While c body [] pos) (K9 tc tb):=by
 ¿pins s σ H D I h;£⟨W,⟨m0,w0⟩,turn⟩:=h;¶wpAny_While (codeAny_whileLoop (λn s'=>∃σ' H',Inv X pins σ' H' s'∧W n σ' H') ?_ m0 ⟨σ,H,I,w0⟩);rintro n s1 ⟨σ1,H1,I1,w1⟩;¶wpAny_passesOwn hp (thn (hc pins s1 σ1 H1 _ I1 (turn n σ1 H1 w1)) λb s2 ⟨H2,I2,q2⟩=>?_);cases b with
 | true=>
  £⟨N,hN,q2⟩:=q2;rw[if_pos rfl];¶wpAny_passesOwn hp (thn (hb pins s2 σ1 H2 _ I2 q2) λf s3 q3=>?_);cases f with
  | next=>
   £⟨σ3,H3,I3,n3⟩:=q3;£⟨m',hm,w3⟩:=hN σ3 H3 n3;§⟨m',hm,σ3,H3,I3,w3⟩
  | cont=>
   £⟨σ3,H3,I3,n3⟩:=q3;£⟨m',hm,w3⟩:=hN σ3 H3 n3;§⟨m',hm,σ3,H3,I3,w3⟩
  | brk=>§q3
  | ret v=>§q3
 | false=>
  rw[if_neg Bool.false_ne_true];§wpAny_execs_nil ⟨σ1,H2,I2,q2⟩
end
structure It where
 go:Nat→Hp→Prop
 yld:Nat→Hp→V→Hp→Prop
 stop:Nat→Hp→Prop
def qr (X:Cx) (pins:List (Addr×Obj)) (H:Hp) (b:Addr):Prop:=
 H b=none∧b≠X.env.locals∧b∉X.fs∧(b∈X.ex∨X.s₀.heap.objs.size≤b)∧(∀x c,X.env.cells.lookup x=some c→c≠b)∧∀p∈X.pn++pins,p.1≠b
theorem Inv.xc {X:Cx} {pins:List (Addr×Obj)} {σ:St} {H H':Hp} {s:Shared} {b:Addr} (I:Inv X pins σ H s) (hb:s.heap.objs.size≤b) (hn:H' b=none):qr X pins H' b:=by
 ¶⟨hn,Nat.ne_of_gt (Nat.lt_of_lt_of_le I.lt hb),I.nofs hb,.inr (Nat.le_trans I.sz hb),λx c e z=>?_,λp hp z=>?_⟩
 ·£⟨v,q⟩:=I.cell x c e;§absurd (Nat.lt_of_lt_of_le q.lt (by rw[z];§hb)) (Nat.lt_irrefl _)
 ·§absurd (Nat.lt_of_lt_of_le (Heap.lt_size (I.pin p hp).1) (by rw[z];§hb)) (Nat.lt_irrefl _)
structure Turn (P:Program) (w:World) (K:PySem.W.Frag) (tg:Expr) (J:It) (fp:List Addr) (it:Addr) (tn:Nat→Heap→Prop):Prop where
 mem:it∈fp
 obj:∀i h,tn i h→∀b∈fp,∃o,h.get? b=some o∧∀v,o.data≠.cell v
 keep:∀i h h',tn i h→(∀b∈fp,∀o,h.get? b=some o→h'.get? b=some o)→tn i h'
 item:∀(X:Cx),X.prog=P→X.w=w→X.K=K→X.calm=true→∀(i:Nat) (pins:List (Addr×Obj)) (s:Shared) (σ:St) (H:Hp) (E:Value→Shared→Prop),Inv X pins σ H s→(∀b∈fp,qr X pins H b)→tn i s.heap→J.go i H→
  wpAny (model P w) X.A (pyNext (.ref it)) (λr s1=>∃u,r=some u∧
   wpAny (model P w) X.A (letOwnedTupleGo tg (.ref it) u) (λ_ s2=>∃x H',Inv X pins σ H' s2∧RelV x u∧J.yld i H x H'∧tn (i+1) s2.heap∧∀b∈fp,H' b=none) E s1) E s
 done:∀(X:Cx),X.prog=P→X.w=w→X.K=K→X.calm=true→∀(i:Nat) (pins:List (Addr×Obj)) (s:Shared) (σ:St) (H:Hp) (E:Value→Shared→Prop),Inv X pins σ H s→(∀b∈fp,qr X pins H b)→tn i s.heap→J.stop i H→
  wpAny (model P w) X.A (pyNext (.ref it)) (λr s1=>r=none∧Inv X pins σ H s1) E s
 self:∀(A:Around) (i:Nat) (s:Shared) (Q:Value→Shared→Prop) (E:Value→Shared→Prop),tn i s.heap→Q (.ref it) s→wpAny (model P w) A (pyIter (.ref it)) Q E s
abbrev TI:=St→Hp→(It→Hp→Prop)→Prop
def PIE (X:Cx) (pins:List (Addr×Obj)) (σ:St) (tg:Expr) (R:It→Hp→Prop) (itv:Value) (s2:Shared):Prop:=
 ∃(it:Addr) (fp:List Addr) (tn:Nat→Heap→Prop) (J:It) (H':Hp),itv=.ref it∧Inv X pins σ H' s2∧Turn X.prog X.w X.K tg J fp it tn∧tn 0 s2.heap∧(∀b∈fp,qr X pins H' b)∧R J H'
def PI (X:Cx) (tg iter:Expr) (wi:TI):Prop:=
 ∀(pins:List (Addr×Obj)) (s:Shared) (σ:St) (H:Hp) (R:It→Hp→Prop),Inv X pins σ H s→wi σ H R→
  wpAny (model X.prog X.w) X.A (eval iter X.env) (λv s1=>wpAny (model X.prog X.w) X.A (pyIter v) (PIE X pins σ tg R) X.xe s1) X.xe s
theorem xv {M:Model} {A:Around} {E:Value→Shared→Prop} {s:Shared} {tg:Expr} {it:Addr} {u:Value} {o:Obj} {n:String} {vs:Array Value} {Q:Unit→Shared→Prop} (ho:s.heap.get? it=some o) (hc:o.cls=.type n) (hd:o.data=.fields vs)
    (hn:["enumerate","zip","dict_itemiterator","dict_reverseitemiterator","odict_iterator","itertools.zip_longest","itertools.pairwise"].contains n=false) (hQ:Q () s):wpAny M A (letOwnedTupleGo tg (.ref it) u) Q E s:=by
  unfold letOwnedTupleGo;cases tg <;> first
    | §wpAny_pure hQ
    | (cases u <;> first
        | §wpAny_pure hQ
        | (¶wpAny_bind (wpAny_load ho ?_)
           rw[hc,hd];show wpAny M A (if (["enumerate","zip","dict_itemiterator","dict_reverseitemiterator","odict_iterator","itertools.zip_longest","itertools.pairwise"].contains n&&vs[0]?==some (rawInt _))=true then _ else _) Q E s
           rw[if_neg (by ¿h;rw[hn,Bool.false_and] at h;cases h)];§wpAny_pure hQ))
noncomputable def Itl (K:PySem.W.Frag) (a:Addr):It:=
 ⟨λi H=>∃xs x,SqL K H a xs∧xs[i]?=some x,λi H x H'=>H'=H∧∀xs,SqL K H a xs→xs[i]?=some x,λi H=>∃xs,SqL K H a xs∧xs.length≤i⟩
noncomputable def Itt (K:PySem.W.Frag) (a:Addr):It:=
 ⟨λi H=>∃xs x,SqT K H a xs∧xs[i]?=some x,λi H x H'=>H'=H∧∀xs,SqT K H a xs→xs[i]?=some x,λi H=>∃xs,SqT K H a xs∧xs.length≤i⟩
noncomputable def Itr (lo:Int) (n:Nat):It:=⟨λi _=>i < n,λi H x H'=>H'=H∧x=.int (lo+i),λi _=>n≤i⟩
theorem Ig {P:Program} {w:World} {K:PySem.W.Frag} {tg:Expr} (a it:Addr):Turn P w K tg (Itl K a) [it] it (λi h=>h.IsListIter it a i) where
 mem:=by simp
 obj:=λi h st b hb=>by
  ¤e:b=it:=by simpa using hb
  subst e;£⟨o,e,c,d⟩:=st;§⟨o,e,λv z=>by rw[d] at z;cases z⟩
 keep:=λi h h' st k=>st.at λo e=>k it (by simp) o e
 item:=by
  ¿X hP hw hK hc i pins s σ H E I hf st hg;subst hP hw hK;£⟨xs,x,hq,hx⟩:=hg;£⟨its,rv,p,hz⟩:=I.list hq;£⟨u,hu,ru⟩:=rv.get hx;£⟨f0,f1,f2,f3,f4,f5⟩:=hf it (by simp);¶wpAny_pyNext_list_item st p.isList (x:=u) (by simpa using hu) λh' st' sb=>?_;¤I1:Inv X pins σ H { s with heap:=h' }:=I.turned (t':=s.toks) (λb o hb e=>(sb.2 b hb).trans e) f0 f1 f3 f4 f5;£⟨o,e,c,d⟩:=id st';§⟨u,rfl,xv (s:={ s with heap:=h' }) e c d (by decide) ⟨x,H,I1,ru,⟨rfl,λys hy=>by rw[I.vh hy hq];§hx⟩,st',λb hb=>(hf b hb).1⟩⟩
 done:=by
  ¿X hP hw hK hc i pins s σ H E I hf st hg;subst hP hw hK;£⟨xs,hq,hx⟩:=hg;£⟨its,rv,p,hz⟩:=I.list hq;£⟨f0,f1,f2,f3,f4,f5⟩:=hf it (by simp);¤hl:=rv.length;§wpAny_pyNext_list_end (I.ok.hd hc) st p.isList (by simp;¡) λh' eb=>⟨rfl,I.turned (t':=s.toks) (λb o hb e=>eb b o hb e) f0 f1 f3 f4 f5⟩
 self:=λ_ _ _ _ _ st h=>wpAny_pyIter_listiter st h
theorem Dl {P:Program} {w:World} {K:PySem.W.Frag} {tg:Expr} (a it:Addr):Turn P w K tg (Itt K a) [it] it (λi h=>h.IsTupleIter it a i) where
 mem:=by simp
 obj:=λi h st b hb=>by
  ¤e:b=it:=by simpa using hb
  subst e;£⟨o,e,c,d⟩:=st;§⟨o,e,λv z=>by rw[d] at z;cases z⟩
 keep:=λi h h' st k=>st.at λo e=>k it (by simp) o e
 item:=by
  ¿X hP hw hK hc i pins s σ H E I hf st hg;subst hP hw hK;£⟨xs,x,hq,hx⟩:=hg;£⟨its,rv,p,hz⟩:=I.tuple hq;£⟨u,hu,ru⟩:=rv.get hx;£⟨f0,f1,f2,f3,f4,f5⟩:=hf it (by simp);¶wpAny_pyNext_tuple_item st (show s.heap.IsTuple a its.toArray from p) (x:=u) (by simpa using hu) λh' st' sb=>?_;¤I1:Inv X pins σ H { s with heap:=h' }:=I.turned (t':=s.toks) (λb o hb e=>(sb.2 b hb).trans e) f0 f1 f3 f4 f5;£⟨o,e,c,d⟩:=id st';§⟨u,rfl,xv (s:={ s with heap:=h' }) e c d (by decide) ⟨x,H,I1,ru,⟨rfl,λys hy=>by rw[I.xx hy hq];§hx⟩,st',λb hb=>(hf b hb).1⟩⟩
 done:=by
  ¿X hP hw hK hc i pins s σ H E I hf st hg;subst hP hw hK;£⟨xs,hq,hx⟩:=hg;£⟨its,rv,p,hz⟩:=I.tuple hq;£⟨f0,f1,f2,f3,f4,f5⟩:=hf it (by simp);¤hl:=rv.length;§wpAny_pyNext_tuple_end (I.ok.hd hc) st (show s.heap.IsTuple a its.toArray from p) (by simp;¡) λh' eb=>⟨rfl,I.turned (t':=s.toks) (λb o hb e=>eb b o hb e) f0 f1 f3 f4 f5⟩
 self:=λ_ _ _ _ _ st h=>wpAny_pyIter_tupleiter st h
theorem Ej {P:Program} {w:World} {K:PySem.W.Frag} {tg:Expr} (it:Addr) (lo:Int) (n:Nat):Turn P w K tg (Itr lo n) [it] it (λi h=>IsRangeIter h it (lo+(i:Nat)*1) ((n:Int) - (i:Nat)) 1) where
 mem:=by simp
 obj:=λi h st b hb=>by
  ¤e:b=it:=by simpa using hb
  subst e;§⟨_,st,λv z=>by
   ¤z':Data.fields _=Data.cell v:=z;cases z'⟩
 keep:=λi h h' st k=>k it (by simp) _ st
 item:=by
  ¿X hP hw hK hc i pins s σ H E I hf st hg;subst hP hw hK;£⟨f0,f1,f2,f3,f4,f5⟩:=hf it (by simp);¤W:=Walks.range (prog:=X.prog) (w:=X.w) (I.ok.hd hc) it lo 1 n;¶W.item i s _ _ hg st λv h' tk hv st' kk=>?_;£⟨t,rfl⟩:=hv;¤I1:Inv X pins σ H { s with heap:=h',toks:=tk }:=I.turned (λb o hb e=>kk b o (by simpa using hb) e) f0 f1 f3 f4 f5;¶⟨_,rfl,xv (s:={ s with heap:=h',toks:=tk }) (n:="range_iterator") st' rfl rfl (by decide) ⟨.int (lo+i),H,I1,⟨t,?_⟩,⟨rfl,rfl⟩,st',λb hb=>(hf b hb).1⟩⟩;rw[Int.mul_one]
 done:=by
  ¿X hP hw hK hc i pins s σ H E I hf st hg;subst hP hw hK;£⟨f0,f1,f2,f3,f4,f5⟩:=hf it (by simp);§wpAny_pyNext_range_end (I.ok.hd hc) st (by have:n≤i:=hg;¡) λh' eb=>⟨rfl,I.turned (t':=s.toks) (λb o hb e=>eb b o hb e) f0 f1 f3 f4 f5⟩
 self:=λ_ _ _ _ _ st h=>wpAny_pyIter_rangeiter st h
end L2
namespace L2
open PySem PySem.Spec PyProof.Rows
section
variable {X:Cx} {tg:Expr}
def iList (K:PySem.W.Frag) (tl:TE):TI:=λσ H R=>tl σ H λx H1=>∃a,x=.ref a∧(∃xs,SqL K H1 a xs)∧R (Itl K a) H1
def iTup (K:PySem.W.Frag) (tl:TE):TI:=λσ H R=>tl σ H λx H1=>∃a,x=.ref a∧(∃xs,SqT K H1 a xs)∧R (Itt K a) H1
theorem Nm {l:Expr} {tl:TE} (hl:PE X l tl):PI X tg l (iList X.K tl):=by
 ¿pins s σ H R I h;¶thn (hl pins s σ H _ I h) λv s1 ⟨x,H1,I1,r1,q1⟩=>?_;£⟨a,e,⟨xs,hq⟩,q⟩:=q1;subst e;cases r1
 £⟨its,rv,p,hz⟩:=I1.list hq;¶wpAny_pyIter_list p.isList ?_;¶⟨s1.heap.objs.size,[s1.heap.objs.size],_,_,H1,rfl,I1.kept (t':=s1.toks) λb o e=>Heap.get?_push_of_some _ e,Ig a _,⟨_,Heap.get?_push_size _ rfl,rfl,rfl⟩,λb hb=>?_,q⟩;¤e:b=s1.heap.objs.size:=by simpa using hb
 subst e;§I1.xc (Nat.le_refl _) (I1.hok.fresh (Nat.le_refl _))
theorem pi_tup {l:Expr} {tl:TE} (hl:PE X l tl):PI X tg l (iTup X.K tl):=by
 ¿pins s σ H R I h;¶thn (hl pins s σ H _ I h) λv s1 ⟨x,H1,I1,r1,q1⟩=>?_;£⟨a,e,⟨xs,hq⟩,q⟩:=q1;subst e;cases r1
 £⟨its,rv,p,hz⟩:=I1.tuple hq;¶wpAny_pyIter_tuple (show s1.heap.IsTuple a its.toArray from p) ?_;¶⟨s1.heap.objs.size,[s1.heap.objs.size],_,_,H1,rfl,I1.kept (t':=s1.toks) λb o e=>Heap.get?_push_of_some _ e,Dl a _,⟨_,Heap.get?_push_size _ rfl,rfl,rfl⟩,λb hb=>?_,q⟩;¤e:b=s1.heap.objs.size:=by simpa using hb
 subst e;§I1.xc (Nat.le_refl _) (I1.hok.fresh (Nat.le_refl _))
theorem Kg {pins:List (Addr×Obj)} {σ:St} {H:Hp} {s:Shared} {R:It→Hp→Prop} {E:Value→Shared→Prop} {lo hi:Int} {t u v:Tok} {tk:Nat} (I:Inv X pins σ H s) (h1:-(2 ^ 62)≤lo) (h2:lo < 2 ^ 62) (h3:-(2 ^ 62)≤hi) (h4:hi < 2 ^ 62)
  (q:R (Itr lo (hi - lo).toNat) H):wpAny (model X.prog X.w) X.A (pyIter (.ref s.heap.objs.size)) (PIE X pins σ tg R) E { s with heap:=s.heap.push { cls:=.type "range",data:=.fields #[.int lo t,.int hi u,.int 1 v] },toks:=tk }:=by
 ¶wpAny_pyIter_range (IsRange.new ..) (small_one h1 h2 h3 h4) ?_;¤I1:Inv X pins σ H { s with heap:=s.heap.push { cls:=.type "range",data:=.fields #[.int lo t,.int hi u,.int 1 v] },toks:=tk }:=I.kept λb o e=>Heap.get?_push_of_some _ e;¶⟨(s.heap.push { cls:=.type "range",data:=.fields #[.int lo t,.int hi u,.int 1 v] }).objs.size,[(s.heap.push { cls:=.type "range",data:=.fields #[.int lo t,.int hi u,.int 1 v] }).objs.size],_,_,H,rfl,
  I1.kept (t':=tk) λb o e=>Heap.get?_push_of_some _ e,Ej _ lo (hi - lo).toNat,?_,λb hb=>?_,q⟩
 ·¤e1:lo+((0:Nat):Int)*1=lo:=by simp
  ¤e2:(((hi - lo).toNat:Nat):Int) - ((0:Nat):Int)=Builtin.Range.rangeSize lo hi 1:=by rw[rangeSize_one];split <;> ¡
  show IsRangeIter _ _ (lo+((0:Nat):Int)*1) ((((hi - lo).toNat:Nat):Int) - ((0:Nat):Int)) 1
  rw[e1,e2];§Heap.get?_push_size _ rfl
 ·¤e:b=(s.heap.push { cls:=.type "range",data:=.fields #[.int lo t,.int hi u,.int 1 v] }).objs.size:=by simpa using hb
  subst e;§I1.xc (Nat.le_refl _) (I1.hok.fresh (Nat.le_refl _))
def iRng1 (ta:TA):TI:=λσ H R=>ta σ H λvs H1=>∃j:Int,vs=[.int j]∧-(2 ^ 62)≤j∧j < 2 ^ 62∧R (Itr 0 j.toNat) H1
def iRng2 (ta:TA):TI:=λσ H R=>ta σ H λvs H1=>∃i j:Int,vs=[.int i,.int j]∧(-(2 ^ 62)≤i∧i < 2 ^ 62∧-(2 ^ 62)≤j∧j < 2 ^ 62)∧R (Itr i (j - i).toNat) H1
theorem Jb {a:Expr} {ta:TA} {p pos:Pos} (hg:Gl X "range") (hm:X.mg "range"=none) (ha:PA X [a] ta) (hs:starEach [a] X.env=[(false,eval a X.env)]:=by rfl):PI X tg (.Call (.Name "range" p) [a] [] pos) (iRng1 ta):=by
 ¿pins s σ H R I h;¶Call_ (jq I hg hm boot_range (PyProof.Rows.callWith_type1 (thn (ha pos pins s σ H _ I h) λus s1 ⟨vs,H1,I1,r1,q1⟩=>?_) hs rfl));£⟨j,e,q1,q2,q⟩:=q1;subst e;cases r1 with
 | cons r rr=>
  cases rr
  £⟨t,rfl⟩:=r;§call_range_1 (Kg I1 ¥ ¥ q1 q2 (by simpa using q))
def tFor (wi:TI) (g:TG) (tb:TS):TS:=λD σ H=>wi σ H λJ H1=>∃W:Nat→Nat→St→Hp→Prop,(∃m,W 0 m σ H1)∧∀i m σ H,W i m σ H→
 (J.stop i H∧D.nx σ H)∨(J.go i H∧∃N:St→Hp→Prop,(∀σ' H',N σ' H'→∃m',m' < m∧W (i+1) m' σ' H')∧∀x H',J.yld i H x H'→g x σ H' λσ2 H2=>tb { D with nx:=N,ct:=N,bk:=D.nx } σ2 H2)
noncomputable def xb (fp:List Addr) (h:Heap):List (Addr×Obj):=fp.filterMap λb=>(h.get? b).map λo=>(b,o)
theorem jr {fp:List Addr} {h:Heap} {b:Addr} {o:Obj} (hb:b∈fp) (e:h.get? b=some o):(b,o)∈xb fp h:=List.mem_filterMap.mpr ⟨b,hb,by rw[e];rfl⟩
theorem Ic {fp:List Addr} {h:Heap} {p:Addr×Obj} (hp:p∈xb fp h):p.1∈fp∧h.get? p.1=some p.2:=by
 £⟨b,hb,e⟩:=List.mem_filterMap.mp hp;cases q:h.get? b with
 | none=>rw[q] at e;cases e
 | some o=>
  rw[q] at e;¤e':(b,o)=p:=Option.some.inj e;subst e';§⟨hb,q⟩
theorem Inv.pinned {pins:List (Addr×Obj)} {σ:St} {H:Hp} {s:Shared} {fp:List Addr} (I:Inv X pins σ H s) (hf:∀b∈fp,qr X pins H b) (ho:∀b∈fp,∃o,s.heap.get? b=some o∧∀v,o.data≠.cell v):Inv X (pins++xb fp s.heap) σ H s:=
 I.Gg λp hp=>(List.mem_append.mp hp).elim (λz=>I.pin p (List.mem_append_right _ z)) λz=>by
  £⟨hb,e⟩:=Ic z;£⟨f0,f1,f2,_⟩:=hf p.1 hb;£⟨o,e',d⟩:=ho p.1 hb;rw[e] at e';cases e';§⟨e,f0,f1,f2,d⟩
theorem Inv.ph {pins pl:List (Addr×Obj)} {σ:St} {H:Hp} {s:Shared} (I:Inv X (pins++pl) σ H s):Inv X pins σ H s:=I.Gg λp hp=>I.pin p (List.mem_append_right _ (List.mem_append_left _ hp))
theorem ps_for {iter:Expr} {body:List Stmt} {wi:TI} {g:TG} {tb:TS} {pos:Pos} (hp:PassesOwn (model X.prog X.w) X.A X.env X.xe) (hc:X.calm=true) (hi:PI X tg iter wi) (hg:PG X tg g) (hb:PSs X body tb)
  (hs:∀x,foldedSetIterable iter X.env x=pure x:=by ¿_;rfl):PS X (.For tg iter body [] pos) (tFor wi g tb):=by
 ¿pins s σ H D I h;¶wpAny_For (thn (hi pins s σ H _ I h) λv s1 h1=>thn h1 λitv s2 h2=>?_) hs;£⟨it,fp,tn,J,H2,e,I2,T,st2,f2,W,⟨m0,w0⟩,turn⟩:=h2;subst e;¤stat:∀{H':Hp},(∀b∈fp,H' b=none)→∀b∈fp,qr X pins H' b:=λhn b hb=>⟨hn b hb,(f2 b hb).2⟩;¶codeAny_forLoop_any (λn s'=>∃i σ' H',Inv X pins σ' H' s'∧tn i s'.heap∧(∀b∈fp,H' b=none)∧W i n σ' H') ?_ m0 ⟨0,σ,H2,I2,st2,λb hb=>(f2 b hb).1,w0⟩;rintro n s3 ⟨i,σ3,H3,I3,st3,fr3,w3⟩;rcases turn i n σ3 H3 w3 with ⟨stop,qn⟩ | ⟨go,N,hN,step⟩
 ·¶wpAny_passesOwn hp (thn (T.done X rfl rfl rfl hc i pins s3 σ3 H3 X.xe I3 (stat fr3) st3 stop) λr s4 ⟨hr,I4⟩=>?_);subst hr;§wpAny_execs_nil ⟨σ3,H3,I4,qn⟩
 ·¶wpAny_passesOwn hp (thn (T.item X rfl rfl rfl hc i pins s3 σ3 H3 X.xe I3 (stat fr3) st3 go) λr s4 ⟨u,hr,h4⟩=>?_);subst hr;¶wpAny_passesOwn hp (thn h4 λ_ s5 ⟨x,H5,I5,r5,y5,st5,fr5⟩=>?_);¤I5':=I5.pinned (stat fr5) (T.obj _ _ st5);¶wpAny_passesOwn hp (thn (hg _ s5 σ3 H5 x u _ I5' r5 (step x H5 y5)) λ_ s6 ⟨σ6,H6,I6,q6⟩=>?_);¶wpAny_passesOwn hp (thn (hb _ s6 σ6 H6 _ I6 q6) λf s7 q7=>?_);¤again:∀{σ7:St} {H7:Hp},Inv X (pins++xb fp s5.heap) σ7 H7 s7→N σ7 H7→∃m,m < n∧∃i σ' H',Inv X pins σ' H' s7∧tn i s7.heap∧(∀b∈fp,H' b=none)∧W i m σ' H':=λ{σ7 H7} I7 n7=>by
   £⟨m',hm,w7⟩:=hN σ7 H7 n7;¶⟨m',hm,i+1,σ7,H7,I7.ph,T.keep _ _ _ st5 λb hb o e=>(I7.pin (b,o) (List.mem_append_right _ (List.mem_append_right _ (jr hb e)))).1,λb hb=>?_,w7⟩;£⟨o,e,d⟩:=T.obj _ _ st5 b hb;§(I7.pin (b,o) (List.mem_append_right _ (List.mem_append_right _ (jr hb e)))).2.1
  cases f with
  | next=>£⟨σ7,H7,I7,n7⟩:=q7;§again I7 n7
  | cont=>£⟨σ7,H7,I7,n7⟩:=q7;§again I7 n7
  | brk=>£⟨σ7,H7,I7,q7⟩:=q7;§⟨σ7,H7,I7.ph,q7⟩
  | ret v=>£⟨x7,σ7,H7,I7,r7,q7⟩:=q7;§⟨x7,σ7,H7,I7.ph,r7,q7⟩
end
theorem Km {K:PySem.W.Frag} {a:Addr} {xs:List V} {g:TG} {tb:TS} {D:Ends} {σ:St} {H:Hp} (Pv:Nat→St→Hp→Prop) (h0:Pv 0 σ H) (hl:∀i σ H,i≤xs.length→Pv i σ H→SqL K H a xs)
  (hs:∀i x σ H,xs[i]?=some x→Pv i σ H→g x σ H λσ2 H2=>tb { D with nx:=Pv (i+1),ct:=Pv (i+1),bk:=D.nx } σ2 H2) (hd:∀σ H,Pv xs.length σ H→D.nx σ H):
  ∃W:Nat→Nat→St→Hp→Prop,(∃m,W 0 m σ H)∧∀i m σ H,W i m σ H→
   ((Itl K a).stop i H∧D.nx σ H)∨((Itl K a).go i H∧∃N:St→Hp→Prop,(∀σ' H',N σ' H'→∃m',m' < m∧W (i+1) m' σ' H')∧∀x H',(Itl K a).yld i H x H'→g x σ H' λσ2 H2=>tb { D with nx:=N,ct:=N,bk:=D.nx } σ2 H2):=by
 ¶⟨λi m σ H=>m=xs.length - i∧i≤xs.length∧Pv i σ H,⟨xs.length,by simp,Nat.zero_le _,h0⟩,?_⟩;rintro i m σ H ⟨rfl,hi,p⟩;¤q:=hl i σ H hi p;¦hlt:i < xs.length
 ·¶.inr ⟨⟨xs,xs[i],q,by simp[hlt]⟩,Pv (i+1),λσ' H' p'=>⟨xs.length - (i+1),¥,rfl,hlt,p'⟩,λx H' y=>?_⟩;£⟨e,y⟩:=y;subst e;§hs i x σ _ (y xs q) p
 ·¤e:i=xs.length:=by ¡
  subst e;§.inl ⟨⟨xs,q,Nat.le_refl _⟩,hd σ H p⟩
theorem O6 {K:PySem.W.Frag} {a:Addr} {xs:List V} {g:TG} {tb:TS} {D:Ends} {σ:St} {H:Hp} (Pv:Nat→St→Hp→Prop) (h0:Pv 0 σ H) (hl:∀i σ H,i≤xs.length→Pv i σ H→SqT K H a xs)
  (hs:∀i x σ H,xs[i]?=some x→Pv i σ H→g x σ H λσ2 H2=>tb { D with nx:=Pv (i+1),ct:=Pv (i+1),bk:=D.nx } σ2 H2) (hd:∀σ H,Pv xs.length σ H→D.nx σ H):
  ∃W:Nat→Nat→St→Hp→Prop,(∃m,W 0 m σ H)∧∀i m σ H,W i m σ H→
   ((Itt K a).stop i H∧D.nx σ H)∨((Itt K a).go i H∧∃N:St→Hp→Prop,(∀σ' H',N σ' H'→∃m',m' < m∧W (i+1) m' σ' H')∧∀x H',(Itt K a).yld i H x H'→g x σ H' λσ2 H2=>tb { D with nx:=N,ct:=N,bk:=D.nx } σ2 H2):=by
 ¶⟨λi m σ H=>m=xs.length - i∧i≤xs.length∧Pv i σ H,⟨xs.length,by simp,Nat.zero_le _,h0⟩,?_⟩;rintro i m σ H ⟨rfl,hi,p⟩;¤q:=hl i σ H hi p;¦hlt:i < xs.length
 ·¶.inr ⟨⟨xs,xs[i],q,by simp[hlt]⟩,Pv (i+1),λσ' H' p'=>⟨xs.length - (i+1),¥,rfl,hlt,p'⟩,λx H' y=>?_⟩;£⟨e,y⟩:=y;subst e;§hs i x σ _ (y xs q) p
 ·¤e:i=xs.length:=by ¡
  subst e;§.inl ⟨⟨xs,q,Nat.le_refl _⟩,hd σ H p⟩
theorem Iz {lo:Int} {n:Nat} {g:TG} {tb:TS} {D:Ends} {σ:St} {H:Hp} (Pv:Nat→St→Hp→Prop) (h0:Pv 0 σ H)
  (hs:∀i σ H,i < n→Pv i σ H→g (.int (lo+i)) σ H λσ2 H2=>tb { D with nx:=Pv (i+1),ct:=Pv (i+1),bk:=D.nx } σ2 H2) (hd:∀σ H,Pv n σ H→D.nx σ H):
  ∃W:Nat→Nat→St→Hp→Prop,(∃m,W 0 m σ H)∧∀i m σ H,W i m σ H→
   ((Itr lo n).stop i H∧D.nx σ H)∨((Itr lo n).go i H∧∃N:St→Hp→Prop,(∀σ' H',N σ' H'→∃m',m' < m∧W (i+1) m' σ' H')∧∀x H',(Itr lo n).yld i H x H'→g x σ H' λσ2 H2=>tb { D with nx:=N,ct:=N,bk:=D.nx } σ2 H2):=by
 ¶⟨λi m σ H=>m=n - i∧i≤n∧Pv i σ H,⟨n,by simp,Nat.zero_le _,h0⟩,?_⟩;rintro i m σ H ⟨rfl,hi,p⟩;¦hlt:i < n
 ·¶.inr ⟨hlt,Pv (i+1),λσ' H' p'=>⟨n - (i+1),¥,rfl,hlt,p'⟩,λx H' y=>?_⟩;£⟨e,y⟩:=y;subst e y;§hs i σ _ hlt p
 ·¤e:i=n:=by ¡
  subst e;§.inl ⟨Nat.le_refl _,hd σ H p⟩
theorem kj {c:TT} {tb:TS} {D:Ends} {σ:St} {H:Hp} (Pv:St→Hp→Prop) (μ:St→Hp→Nat) (h0:Pv σ H)
  (hs:∀σ H,Pv σ H→c σ H λb H1=>if b=true then tb { D with nx:=λσ' H'=>Pv σ' H'∧μ σ' H' < μ σ H,ct:=λσ' H'=>Pv σ' H'∧μ σ' H' < μ σ H,bk:=D.nx } σ H1 else D.nx σ H1)
  (mono:∀σ H Q Q',(∀b H1,Q b H1→Q' b H1)→c σ H Q→c σ H Q'):K9 c tb D σ H:=by
 ¶⟨λm σ H=>m=μ σ H∧Pv σ H,⟨_,rfl,h0⟩,?_⟩;rintro m σ H ⟨rfl,p⟩;¶mono σ H _ _ (λb H1 q=>?_) (hs σ H p);cases b with
 | true=>§⟨_,λσ' H' ⟨p',l⟩=>⟨_,l,rfl,p'⟩,q⟩
 | false=>§q
end L2
namespace L2
open PySem PySem.Spec PyProof.Rows
abbrev R2:=V→V→Hp→VK→Prop
def OpR (X:Cx) (f:Value→Value→Sem Value) (r:R2):Prop:=
 ∀(pins:List (Addr×Obj)) (s:Shared) (σ:St) (H:Hp) (x y:V) (v u:Value) (Q:VK),Inv X pins σ H s→RelV x v→RelV y u→r x y H Q→
  wpAny (model X.prog X.w) X.A (f v u) (EP X pins σ Q) X.xe s
def UnR (X:Cx) (f:Value→Sem Value) (r:V→Hp→VK→Prop):Prop:=
 ∀(pins:List (Addr×Obj)) (s:Shared) (σ:St) (H:Hp) (x:V) (v:Value) (Q:VK),Inv X pins σ H s→RelV x v→r x H Q→
  wpAny (model X.prog X.w) X.A (f v) (EP X pins σ Q) X.xe s
def gw (X:Cx) (f:Value) (r:List V→Hp→VK→Prop):Prop:=
 ∀(pins:List (Addr×Obj)) (s:Shared) (σ:St) (H:Hp) (xs:List V) (us:List Value) (Q:VK),Inv X pins σ H s→Vals xs us→r xs H Q→
  wpAny (model X.prog X.w) X.A (call f us) (EP X pins σ Q) X.xe s
def tOp (r:R2) (ta tb:TE):TE:=λσ H Q=>ta σ H λx H1=>tb σ H1 λy H2=>r x y H2 Q
def tUn (r:V→Hp→VK→Prop) (ta:TE):TE:=λσ H Q=>ta σ H λx H1=>r x H1 Q
def rI (C:Int→Int→Prop) (g:Int→Int→V):R2:=λx y H Q=>∃i j,x=.int i∧y=.int j∧C i j∧Q (g i j) H
def rI0 (g:Int→Int→V):R2:=λx y H Q=>∃i j,x=.int i∧y=.int j∧Q (g i j) H
def rU (g:Int→V):V→Hp→VK→Prop:=λx H Q=>∃i,x=.int i∧Q (g i) H
section
variable {X:Cx} {a b c:Expr} {ta tb tc:TE} {pos:Pos}
theorem binT (ha:PE X a ta) (hb:PE X b tb) {pins:List (Addr×Obj)} {s:Shared} {σ:St} {H:Hp} {R:V→V→Hp→Prop} (I:Inv X pins σ H s)
  (h:ta σ H λx H1=>tb σ H1 λy H2=>R x y H2) {Q:Value→Shared→Prop} {f:Value→Value→Sem Value}
  (hf:∀v u s2 x y H2,Inv X pins σ H2 s2→RelV x v→RelV y u→R x y H2→wpAny (model X.prog X.w) X.A (f v u) Q X.xe s2):
  wpAny (model X.prog X.w) X.A (eval a X.env) (λv s₁=>wpAny (model X.prog X.w) X.A (eval b X.env) (λu s₂=>wpAny (model X.prog X.w) X.A (f v u) Q X.xe s₂) X.xe s₁) X.xe s:=by
 ¶thn (ha pins s σ H _ I h) λv s1 ⟨x,H1,I1,r1,q1⟩=>?_;¶thn (hb pins s1 σ H1 _ I1 q1) λu s2 ⟨y,H2,I2,r2,q2⟩=>?_;§hf v u s2 x y H2 I2 r1 r2 q2
theorem pe_op {op:Operator} {r:R2} (ho:OpR X (binaryOp op) r) (ha:PE X a ta) (hb:PE X b tb):PE X (.BinOp a op b pos) (tOp r ta tb):=by
 ¿pins s σ H Q I h;§wpAny_BinOp (binT ha hb I h λv u s2 x y H2 I2 rx ry q=>ho pins s2 σ H2 x y v u Q I2 rx ry q)
theorem pe_un {op:UnaryOp} {r:V→Hp→VK→Prop} (ho:UnR X (unaryOp op) r) (ha:PE X a ta):PE X (.UnaryOp op a pos) (tUn r ta):=by
 ¿pins s σ H Q I h;§UnaryOp_ (thn (ha pins s σ H _ I h) λv s1 ⟨x,H1,I1,r1,q1⟩=>ho pins s1 σ H1 x v Q I1 r1 q1)
theorem opI {f:Value→Value→Sem Value} {C:Int→Int→Prop} {g:Int→Int→Int}
  (rule:∀(i j:Int) (t u:Tok) (s:Shared) (Q:Value→Shared→Prop) (E:Value→Shared→Prop),C i j→Q (.int (g i j) s.toks) { s with toks:=s.toks+1 }→wpAny (model X.prog X.w) X.A (f (.int i t) (.int j u)) Q E s):
  OpR X f (rI C λi j=>.int (g i j)):=by
 ¿pins s σ H x y v u Q I rx ry h;£⟨i,j,rfl,rfl,hc,q⟩:=h;£⟨t,rfl⟩:=rx;£⟨t',rfl⟩:=ry;§rule i j t t' s _ _ hc ⟨.int (g i j),H,I.tok _,⟨_,rfl⟩,q⟩
theorem opI0 {f:Value→Value→Sem Value} {g:Int→Int→Int}
  (rule:∀(i j:Int) (t u:Tok) (s:Shared) (Q:Value→Shared→Prop) (E:Value→Shared→Prop),Q (.int (g i j) s.toks) { s with toks:=s.toks+1 }→wpAny (model X.prog X.w) X.A (f (.int i t) (.int j u)) Q E s):
  OpR X f (rI0 λi j=>.int (g i j)):=by
 ¿pins s σ H x y v u Q I rx ry h;£⟨i,j,rfl,rfl,q⟩:=h;£⟨t,rfl⟩:=rx;£⟨t',rfl⟩:=ry;§rule i j t t' s _ _ ⟨.int (g i j),H,I.tok _,⟨_,rfl⟩,q⟩
theorem opB0 {f:Value→Value→Sem Value} {g:Int→Int→Bool}
  (rule:∀(i j:Int) (t u:Tok) (s:Shared) (Q:Value→Shared→Prop) (E:Value→Shared→Prop),Q (.bool (g i j)) s→wpAny (model X.prog X.w) X.A (f (.int i t) (.int j u)) Q E s):
  OpR X f (rI0 λi j=>.bl (g i j)):=by
 ¿pins s σ H x y v u Q I rx ry h;£⟨i,j,rfl,rfl,q⟩:=h;£⟨t,rfl⟩:=rx;£⟨t',rfl⟩:=ry;§rule i j t t' s _ _ ⟨.bl (g i j),H,I,rfl,q⟩
def pj (i j:Int):Prop:=0 < j∧j < 1073741824
def CPow (i j:Int):Prop:=0≤j∧j≤1000000∧i.natAbs < 2 ^ 64
def CMul (i j:Int):Prop:=(-(2 ^ 64) < i∧i < 2 ^ 64)∨(-(2 ^ 64) < j∧j < 2 ^ 64)
theorem CMul.ok {i j:Int} (h:CMul i j):IntMulOk i j:=by
 rcases h with ⟨h1,h2⟩ | ⟨h1,h2⟩
 ·§.of_left (intBits_le_64 h1 h2)
 ·§.of_right (intBits_le_64 h1 h2)
theorem op_add:OpR X (binaryOp .Add) (rI0 λi j=>.int (i+j)):=opI0 λ_ _ _ _ _ _ _ q=>add_int q
theorem op_sub:OpR X (binaryOp .Sub) (rI0 λi j=>.int (i - j)):=opI0 λ_ _ _ _ _ _ _ q=>sub_int q
theorem op_mul:OpR X (binaryOp .Mult) (rI CMul λi j=>.int (i*j)):=opI λ_ _ _ _ _ _ _ hc q=>mul_int q hc.ok
theorem Om:OpR X (binaryOp .FloorDiv) (rI pj λi j=>.int (i / j)):=opI λi j _ _ _ _ _ hc q=>by
 ¤h1:(0:Int) < j:=hc.1;¤h2:j < 1073741824:=hc.2;§floordiv_int ¥ (by rw[Int.fdiv_eq_ediv_of_nonneg i ¥];§q) (.inl (PyProof.noPylong_small ¥))
theorem op_mod:OpR X (binaryOp .Mod) (rI (λ_ j=>0 < j) λi j=>.int (i % j)):=opI λi j _ _ _ _ _ hc q=>by
 ¤h1:(0:Int) < j:=hc;§mod_int' ¥ (by rw[Int.fmod_eq_emod_of_nonneg i ¥];§q)
theorem op_pow:OpR X (binaryOp .Pow) (rI CPow λi j=>.int (i ^ j.toNat)):=opI λ_ _ _ _ _ _ _ hc q=>pow_int_small hc.1 hc.2.1 hc.2.2 q
theorem unI {f:Value→Sem Value} {g:Int→Int}
  (rule:∀(i:Int) (t:Tok) (s:Shared) (Q:Value→Shared→Prop) (E:Value→Shared→Prop),Q (.int (g i) s.toks) { s with toks:=s.toks+1 }→wpAny (model X.prog X.w) X.A (f (.int i t)) Q E s):
  UnR X f (rU λi=>.int (g i)):=by
 ¿pins s σ H x v Q I rx h;£⟨i,rfl,q⟩:=h;£⟨t,rfl⟩:=rx;§rule i t s _ _ ⟨.int (g i),H,I.tok _,⟨_,rfl⟩,q⟩
theorem un_neg:UnR X (unaryOp .USub) (rU λi=>.int (-i)):=unI λ_ _ _ _ _ q=>neg_int q
end
noncomputable def scal:V→V→Bool
 | .non,.non=>true | .non,.int _=>true | .int _,.non=>true | .non,.bl _=>true | .bl _,.non=>true | .non,.str _=>true | .str _,.non=>true
 | .int _,.int _=>true | .bl _,.bl _=>true | .str _,.str _=>true | .byt _,.byt _=>true
 | .int _,.str _=>true | .str _,.int _=>true | .bl _,.str _=>true | .str _,.bl _=>true
 | _,_=>false
def rEq:R2:=λx y H Q=>scal x y=true∧Q (.bl (decide (x=y))) H
def rNe:R2:=λx y H Q=>scal x y=true∧Q (.bl (!decide (x=y))) H
theorem Gp {i j:Int}:decide (V.int i=V.int j)=(i==j):=by
 rw[Bool.eq_iff_iff];simp
theorem J3 {i j:Bool}:decide (V.bl i=V.bl j)=(i==j):=by
 rw[Bool.eq_iff_iff];simp
theorem E8 {i j:Str}:decide (V.str i=V.str j)=(i==j):=by
 rw[Bool.eq_iff_iff];simp
theorem E7 {i j:Array UInt8}:decide (V.byt i=V.byt j)=(i.toList==j.toList):=by
 rw[Bool.eq_iff_iff];cases i
 cases j
 simp
section
variable {X:Cx} {a b c:Expr} {ta tb tc:TE} {pos:Pos}
theorem bh {pins:List (Addr×Obj)} {σ:St} {H:Hp} {s:Shared} {Q:VK} {k k':Bool} (I:Inv X pins σ H s) (q:Q (.bl k) H) (e:k=k'):EP X pins σ Q (.bool k') s:=by
 subst e;§⟨.bl k,H,I,rfl,q⟩
theorem op_eq:OpR X (compareOp .Eq) rEq:=by
 ¿pins s σ H x y v u Q I rx ry h;£⟨hs,q⟩:=h;cases x with
 | non=>
  cases rx
  cases y with
  | non=>cases ry;§PySem.EqNone.eq_none_none (bh I q (by simp))
  | bl j=>cases ry;§PySem.EqNone.eq_none_bool (bh I q (by simp))
  | int j=>£⟨t',rfl⟩:=ry;§PySem.EqNone.eq_none_int (bh I q (by simp))
  | str j=>£⟨t',rfl⟩:=ry;§PySem.EqNone.eq_none_str (bh I q (by simp))
  | _=>§absurd (show false=true from hs) Bool.false_ne_true
 | bl i=>
  cases rx
  cases y with
  | non=>cases ry;§PySem.EqNone.eq_bool_none (bh I q (by simp))
  | bl j=>cases ry;§eq_bool (bh I q J3)
  | str j=>£⟨t',rfl⟩:=ry;§PySem.EqMixed.eq_bool_str (bh I q (by simp))
  | _=>§absurd (show false=true from hs) Bool.false_ne_true
 | int i=>
  £⟨t,rfl⟩:=rx;cases y with
  | non=>cases ry;§PySem.EqNone.eq_int_none (bh I q (by simp))
  | int j=>£⟨t',rfl⟩:=ry;§eq_int (bh I q Gp)
  | str j=>£⟨t',rfl⟩:=ry;§PySem.EqMixed.eq_int_str (bh I q (by simp))
  | _=>§absurd (show false=true from hs) Bool.false_ne_true
 | str i=>
  £⟨t,rfl⟩:=rx;cases y with
  | non=>cases ry;§PySem.EqNone.eq_str_none (bh I q (by simp))
  | bl j=>cases ry;§PySem.EqMixed.eq_str_bool (bh I q (by simp))
  | int j=>£⟨t',rfl⟩:=ry;§PySem.EqMixed.eq_str_int (bh I q (by simp))
  | str j=>£⟨t',rfl⟩:=ry;§eq_str (bh I q E8)
  | _=>§absurd (show false=true from hs) Bool.false_ne_true
 | byt i=>
  £⟨t,rfl⟩:=rx;cases y with
  | byt j=>£⟨t',rfl⟩:=ry;§PySem.W.eq_bytes (bh I q E7)
  | _=>§absurd (show false=true from hs) Bool.false_ne_true
 | _=>cases y <;> §absurd (show false=true from hs) Bool.false_ne_true
theorem Cs:OpR X (compareOp .NotEq) rNe:=by
 ¿pins s σ H x y v u Q I rx ry h;£⟨hs,q⟩:=h;cases x with
 | non=>
  cases rx
  cases y with
  | non=>cases ry;§PySem.EqNone.ne_none_none (bh I q (by simp))
  | bl j=>cases ry;§PySem.EqNone.ne_none_bool (bh I q (by simp))
  | int j=>£⟨t',rfl⟩:=ry;§PySem.EqNone.ne_none_int (bh I q (by simp))
  | str j=>£⟨t',rfl⟩:=ry;§PySem.EqNone.ne_none_str (bh I q (by simp))
  | _=>§absurd (show false=true from hs) Bool.false_ne_true
 | bl i=>
  cases rx
  cases y with
  | non=>cases ry;§PySem.EqNone.ne_bool_none (bh I q (by simp))
  | bl j=>cases ry;§ne_bool (bh I q (congrArg not J3))
  | str j=>£⟨t',rfl⟩:=ry;§PySem.EqMixed.ne_bool_str (bh I q (by simp))
  | _=>§absurd (show false=true from hs) Bool.false_ne_true
 | int i=>
  £⟨t,rfl⟩:=rx;cases y with
  | non=>cases ry;§PySem.EqNone.ne_int_none (bh I q (by simp))
  | int j=>£⟨t',rfl⟩:=ry;§ne_int (bh I q (congrArg not Gp))
  | str j=>£⟨t',rfl⟩:=ry;§PySem.EqMixed.ne_int_str (bh I q (by simp))
  | _=>§absurd (show false=true from hs) Bool.false_ne_true
 | str i=>
  £⟨t,rfl⟩:=rx;cases y with
  | non=>cases ry;§PySem.EqNone.ne_str_none (bh I q (by simp))
  | bl j=>cases ry;§PySem.EqMixed.ne_str_bool (bh I q (by simp))
  | int j=>£⟨t',rfl⟩:=ry;§PySem.EqMixed.ne_str_int (bh I q (by simp))
  | str j=>£⟨t',rfl⟩:=ry;§ne_str (bh I q (congrArg not E8))
  | _=>§absurd (show false=true from hs) Bool.false_ne_true
 | byt i=>
  £⟨t,rfl⟩:=rx;cases y with
  | byt j=>£⟨t',rfl⟩:=ry;§PySem.W.ne_bytes (bh I q (congrArg not E7))
  | _=>§absurd (show false=true from hs) Bool.false_ne_true
 | _=>cases y <;> §absurd (show false=true from hs) Bool.false_ne_true
theorem op_lt:OpR X (compareOp .Lt) (rI0 λi j=>.bl (decide (i < j))):=opB0 λ_ _ _ _ _ _ _ q=>lt_int q
theorem op_gt:OpR X (compareOp .Gt) (rI0 λi j=>.bl (decide (j < i))):=opB0 λ_ _ _ _ _ _ _ q=>gt_int q
theorem nomark (b:Expr) {op:CmpOp} (h:op≠.In:=by decide) (h2:op≠.NotIn:=by decide):behindInMarks op b=false:=by
 ¤e1:(op==CmpOp.In)=false:=by cases op <;> first | rfl | §absurd rfl h
 ¤e2:(op==CmpOp.NotIn)=false:=by cases op <;> first | rfl | §absurd rfl h2
 cases b <;> simp[behindInMarks,e1,e2]
theorem Af {op:CmpOp} {r:R2} (ho:OpR X (compareOp op) r) (ha:PE X a ta) (hb:PE X b tb) (hm:behindInMarks op b=false):PE X (.Compare a [op] [b] pos) (tOp r ta tb):=by
 ¿pins s σ H Q I h;§wpAny_Compare1 (binT ha hb I h λv u s2 x y H2 I2 rx ry q=>ho pins s2 σ H2 x y v u Q I2 rx ry q) hm
def Cp (t:TE):TT:=λσ H Q=>t σ H λx H'=>∃k,x=.bl k∧Q k H'
theorem Ng {op:CmpOp} {r:R2} (ho:OpR X (compareOp op) r) (ha:PE X a ta) (hb:PE X b tb) (hm:behindInMarks op b=false):PT X (.Compare a [op] [b] pos) (Cp (tOp r ta tb)):=by
 ¿pins s σ H Q I h;¶wpAny_isTrue_Compare1 (thn (ha pins s σ H _ I h) λv s1 ⟨x,H1,I1,r1,q1⟩=>thn (hb pins s1 σ H1 _ I1 q1) λu s2 ⟨y,H2,I2,r2,q2⟩=>
  thn (ho pins s2 σ H2 x y v u _ I2 r1 r2 q2) λc s3 ⟨z,H3,I3,r3,k,e,q3⟩=>?_) hm
 subst e;cases r3
 §wpAny_truthy_bool ⟨H3,I3,q3⟩
theorem ur:(sizeLine:Nat) < 2 ^ 63:=by rw[sizeLine_eq];decide
theorem Er:OpR X (binaryOp .Add) (λx y H Q=>∃i j,x=.str i∧y=.str j∧i.length+j.length≤sizeLine∧Q (.str (i++j)) H):=by
 ¿pins s σ H x y v u Q I rx ry h;£⟨i,j,rfl,rfl,hz,q⟩:=h;£⟨t,rfl⟩:=rx;£⟨t',rfl⟩:=ry;§add_str (λt' tk=>⟨.str (i++j),H,I.tok _,⟨_,rfl⟩,q⟩) hz
theorem vals1 {x:V} {us:List Value} (r:Vals [x] us):∃u,us=[u]∧RelV x u:=by
 cases r with
 | cons r1 r2=>cases r2;§⟨_,rfl,r1⟩
theorem vals2 {x y:V} {us:List Value} (r:Vals [x,y] us):∃u w',us=[u,w']∧RelV x u∧RelV y w':=by
 cases r with
 | cons r1 r2=>
  cases r2 with
  | cons r3 r4=>cases r4;§⟨_,_,rfl,r1,r3⟩
theorem Hh (hc:X.calm=true):gw X (.builtin "max") (λxs H Q=>∃i j,xs=[.int i,.int j]∧Q (.int (if j > i then j else i)) H):=by
 ¿pins s σ H xs us Q I r h;£⟨i,j,rfl,q⟩:=h;£⟨u,w',rfl,⟨t,rfl⟩,⟨t',rfl⟩⟩:=vals2 r;¶max_two_ints (I.ok.hd hc) λh' tk k=>⟨_,H,I.kept k,?_,q⟩;¦hj:j > i
 ·rw[if_pos hj,if_pos hj];§⟨_,rfl⟩
 ·rw[if_neg hj,if_neg hj];§⟨_,rfl⟩
theorem Jc:gw X (.type "int") (λxs H Q=>(∃i,xs=[.int i]∧Q (.int i) H)∨∃k,xs=[.bl k]∧Q (.int (if k then 1 else 0)) H):=by
 ¿pins s σ H xs us Q I r h;rcases h with ⟨i,rfl,q⟩ | ⟨k,rfl,q⟩
 ·£⟨u,rfl,t,rfl⟩:=vals1 r;§call_int_int ⟨.int i,H,I,⟨_,rfl⟩,q⟩
 ·£⟨u,rfl,r1⟩:=vals1 r;cases r1
  §call_int_bool ⟨.int (if k then 1 else 0),H,I.tok _,⟨_,rfl⟩,q⟩
end
end L2
namespace L2
open PySem PySem.Spec PyProof.Rows
structure ObjM (h:Heap) (x dx C:Addr) (mA:Str→Option Value):Prop where
 obj:h.get? x=some (PySem.W.instObj C dx)
 ns:h.Ns1 dx mA
 ne:dx≠x
theorem Hv {h:Heap} {dx:Addr} {mA:Str→Option Value} (n:h.Ns1 dx mA):∃od,h.get? dx=some od∧∀name,PySem.W.lookIn name od=some (mA name):=by
 £⟨o,es,ep,ho,hd,hk,_,hm⟩:=n;¶⟨o,ho,λname=>?_⟩;¤e:=hm name;unfold nsFind findBy at e;rw[←Array.find?_toList] at e;unfold PySem.W.lookIn;rw[hd];dsimp only;split
 ·rename_i y q
  rw[q] at e;§congrArg some e
 ·rename_i q
  rw[q] at e;¤a:es.toList.any (·.refKey)=false:=by
   rw[List.any_eq_false];¿y hy;£⟨z,t,hkey⟩:=hk y (Array.mem_toList_iff.mp hy);simp[DictEntry.refKey,hkey]
  ¤a':¬es.toList.any (·.refKey)=true:=by rw[a];§Bool.false_ne_true
  rw[if_neg a'];§congrArg some e
theorem ObjM.look {h:Heap} {x dx C:Addr} {mA:Str→Option Value} (I:ObjM h x dx C mA):∃od,PySem.W.InstAt h x (PySem.W.instObj C dx) C (some od)∧∀name,PySem.W.lookIn name od=some (mA name):=
 let ⟨od,ho,hl⟩:=Hv I.ns
 ⟨od,⟨I.obj,rfl,rfl,ho⟩,hl⟩
section
variable {prog:Program} {w:World} {A:Around} {E:Value→Shared→Prop} {s:Shared} {K:PySem.W.Frag} {x dx C f:Addr} {mA:Str→Option Value} {name:Str} {v:Value}
end
theorem m5.some_of {v:V} {o:Option Value} (r:m5 (some v) o):∃u,o=some u∧RelV v u:=by
 cases o with
 | none=>§(show False from r).elim
 | some u=>§⟨u,rfl,r⟩
section
variable {P:Program} {w:World} {H H':Hp} {h h':Heap} {a C dx:Addr} {fs fs':List (Str×V)}
theorem Ph (hok:HOk P w H h) (e:H a=some (.ins C dx fs)):∃mA,ObjM h a dx C mA∧(∀f,m5 (fs.lookup f) (mA f))∧PySem.Within mA (fs.map (·.1))∧fs.length≤1000∧H dx=some (.own a):=by
 £⟨d,z,ne,ob,mA,n,r,q⟩:=(show br P w H h a (.ins C dx fs) from hok a _ e);§⟨mA,⟨ob,n,ne⟩,r,q,z,d⟩
end
structure Cls (K:PySem.W.Frag) (C:Addr):Prop where
 pg:PySem.W.plainGet K C Str.empty=true
 hd:PySem.W.hasDictIn K C=true
 po:PySem.W.plainOver K C=true
 sa:PySem.W.findIn K (.ref C) "__setattr__"=some (some (.builtin "object.__setattr__"))
theorem Cls.get {K:PySem.W.Frag} {C:Addr} (c:Cls K C) (f:Str):PySem.W.plainGet K C f=true:=c.pg
section
variable {X:Cx} {pins:List (Addr×Obj)} {σ:St} {H:Hp} {s:Shared} {a C dx:Addr} {fs:List (Str×V)} {f:Str} {v:V} {A:Around} {E:Value→Shared→Prop}
end
section
variable {X:Cx} {o e value:Expr} {f:Str} {pos pos' tpos:Pos} {ta tv:TE}
end
section
variable {X:Cx} {pins:List (Addr×Obj)} {σ:St} {H:Hp} {s:Shared} {A:Around} {E:Value→Shared→Prop} {Q:Value→Shared→Prop} {c:Value} {b:Bool}
inductive ql (K:PySem.W.Frag) (H:Hp):V→Value→Prop where
 | non:ql K H .non (.type "NoneType")
 | bl (x:Bool):ql K H (.bl x) (.type "bool")
 | int (i:Int):ql K H (.int i) (.type "int")
 | str (x:Str):ql K H (.str x) (.type "str")
 | flt (x:UInt64):ql K H (.flt x) (.type "float")
 | lst {a:Addr} {xs:List V} (e:H a=some (.lst xs)):ql K H (.ref a) (.type "list")
 | frz {a:Addr} {o:Obj} {xs:List V} (e:H a=some (.frz o (.lst xs))):ql K H (.ref a) (.type "list")
 | tup {a:Addr} {xs:List V} (e:H a=some (.tup xs)):ql K H (.ref a) (.type "tuple")
 | dK {a:Addr} {kvs:List (Key×V)} (e:H a=some (.dK kvs)):ql K H (.ref a) (.type "dict")
 | dT {a:Addr} {kvs:List (List Key×V)} (e:H a=some (.dT kvs)):ql K H (.ref a) (.type "dict")
 | ins {a C dx:Addr} {fs:List (Str×V)} (e:H a=some (.ins C dx fs)) (cl:Cls K C) (ha:PySem.W.findIn K (.ref C) "__class__"=some (some (.builtin "object.__class__")))
   (hn:PySem.W.specialIn K (.builtin "object.__class__") "__get__"=some (some (.builtin "getset_descriptor.__get__"))) (htk:PySem.W.takesIn K (.builtin "object.__class__")=some true)
   (hm:PySem.W.mroIn K C (.type "object")=some true):ql K H (.ref a) (.ref C)
theorem Hg {x:V} {u t:Value} (I:Inv X pins σ H s) (rx:RelV x u) (ty:ql X.K H x t) (e:PySem.W.kitOne X.K t c=some b) (h:∀tk,Q (.bool b) { s with toks:=tk }):
  wpAny (model X.prog X.w) A (call (.builtin "isinstance") [u,c]) Q E s:=by
 cases ty with
 | non=>cases (show u=Value.none from rx);§PySem.W.kia_one PySem.W.kitx_none I.kIn True.intro e (λz=>nomatch z) h
 | bl y=>cases (show u=Value.bool y from rx);§PySem.W.kia_one PySem.W.kitx_bool I.kIn True.intro e (λz=>nomatch z) h
 | int i=>£⟨t,q⟩:=(show ∃t,u=Value.int i t from rx);cases q;§PySem.W.kia_one PySem.W.kitx_int I.kIn True.intro e (λz=>nomatch z) h
 | str y=>£⟨t,q⟩:=(show ∃t,u=Value.str y t from rx);cases q;§PySem.W.kia_one PySem.W.kitx_str I.kIn True.intro e (λz=>nomatch z) h
 | flt y=>£⟨t,q⟩:=(show ∃t,u=Value.float y t from rx);cases q;§PySem.W.kia_one PySem.W.kitx_float I.kIn True.intro e (λz=>nomatch z) h
 | @lst a xs ea=>
  cases (show u=Value.ref a from rx)
  £⟨_,_,n,_,h1⟩:=(show br X.prog X.w H s.heap a (.lst xs) from I.hok a _ ea);§PySem.W.kia_one PySem.W.kitx_list I.kIn ⟨_,h1,rfl⟩ e (λz=>nomatch z) h
 | @frz a ob xs ea=>
  cases (show u=Value.ref a from rx)
  £⟨_,_,_,n,_,h1⟩:=(show br X.prog X.w H s.heap a (.frz ob (.lst xs)) from I.hok a _ ea);§PySem.W.kia_one PySem.W.kitx_list I.kIn ⟨_,h1,rfl⟩ e (λz=>nomatch z) h
 | @tup a xs ea=>
  cases (show u=Value.ref a from rx)
  £⟨_,_,_,p⟩:=(show br X.prog X.w H s.heap a (.tup xs) from I.hok a _ ea);£⟨o,h1,h2,_⟩:=p;§PySem.W.kia_one PySem.W.kitx_tuple I.kIn ⟨o,h1,h2⟩ e (λz=>nomatch z) h
 | @dK a kvs ea=>
  cases (show u=Value.ref a from rx)
  £⟨_,_,vs,_,p⟩:=(show br X.prog X.w H s.heap a (.dK kvs) from I.hok a _ ea);£⟨o,es,ep,h1,h2,_⟩:=p;§PySem.W.kia_one PySem.W.kitx_dict I.kIn ⟨o,h1,h2.1⟩ e (λz=>nomatch z) h
 | @dT a kvs ea=>
  cases (show u=Value.ref a from rx)
  £⟨_,_,xs,_,o,es,ep,h1,h2,_⟩:=(show br X.prog X.w H s.heap a (.dT kvs) from I.hok a _ ea);§PySem.W.kia_one PySem.W.kitx_dict I.kIn ⟨o,h1,h2.1⟩ e (λz=>nomatch z) h
 | @ins a C dx fs ea cl ha hn htk hm=>
  cases (show u=Value.ref a from rx)
  £⟨mA,O,_⟩:=Ph I.hok ea;£⟨od,J,_⟩:=O.look;§PySem.W.kia_one (PySem.W.kitx_own (cl.get _) cl.hd ha hn htk hm) I.kIn J e (λz=>nomatch z) h
end
end L2
namespace L2
open PySem PySem.Spec PyProof.Rows
structure iy (k:Nat) (A:Around):Prop where
 hd:A.handled=none
 dp:A.depth+3*k+5 < recursionLimit
 un:A.units+16*k+200 < cLine
theorem iy.mono {j k:Nat} {A:Around} (r:iy k A) (h:j≤k):iy j A:=⟨r.hd,by have:=r.dp;¡,by have:=r.un;¡⟩
theorem iy.deeper {k:Nat} {A:Around} (r:iy (k+1) A) (env:Env):iy k (A.deeper env):=
 ⟨r.hd,by have:=r.dp;show A.depth+1+3*k+5 < _;¡,by have:=r.un;show A.units+3+16*k+200 < _;¡⟩
theorem iy.depth {k:Nat} {A:Around} (r:iy k A):A.depth < recursionLimit:=by have:=r.dp;¡
theorem iy.units {k:Nat} {A:Around} (r:iy k A):A.units+64 < cLine:=by have:=r.un;¡
def tNil:TA:=λ_ H Q=>Q [] H
def tCons (ta:TE) (tr:TA):TA:=λσ H Q=>ta σ H λx H1=>tr σ H1 λxs H2=>Q (x::xs) H2
section
variable {X:Cx} {e:Expr} {es:List Expr} {te:TE} {t:TA} {pos:Pos}
theorem Lq:PA X [] tNil:=λ_ _ _ _ H Q I h=>Calls.spliced_nil ⟨[],H,I,.nil,h⟩
theorem Ak (ha:PE X e te) (hr:PA X es t) (hs:starEach (e::es) X.env=(false,eval e X.env)::starEach es X.env:=by rfl):PA X (e::es) (tCons te t):=by
 ¿pos pins s σ H Q I h;rw[hs];show wpAny _ _ (spliced ((false,eval e X.env)::backTo pos (starEach es X.env))) _ _ s
 ¶Calls.spliced_cons (thn (ha pins s σ H _ I h) λu s1 ⟨x,H1,I1,r1,q1⟩=>?_);§thn (hr pos pins s1 σ H1 _ I1 q1) λus s2 ⟨xs,H2,I2,r2,q2⟩=>⟨x::xs,H2,I2,.cons r1 r2,q2⟩
def tTup (t:TA):TE:=λσ H Q=>t σ H λxs H1=>xs.length≤sizeLine∧∀p,H1 p=none→Q (.ref p) (upd H1 p (.tup xs))
def tLst (t:TA):TE:=λσ H Q=>t σ H λxs H1=>xs.length≤sizeLine∧∀p,H1 p=none→Q (.ref p) (upd H1 p (.lst xs))
theorem pe_tup {x1} (h:PA X es t):PE X (.Tuple es x1 pos) (tTup t):=by
 ¿pins s σ H Q I hq;¶wpAny_Tuple_spliced (thn (h pos pins s σ H _ I hq) λus s1 ⟨xs,H1,I1,r,z,q⟩=>⟨by rw[←r.length];§z,?_⟩);¤hf:H1 s1.heap.objs.size=none:=I1.hok.fresh (Nat.le_refl _);¶⟨.ref s1.heap.objs.size,upd H1 s1.heap.objs.size (.tup xs),I1.laid (t':=s1.toks) (λb u e=>Heap.get?_push_of_some _ e) (Nat.le_refl _) ?_,rfl,q _ hf⟩;§⟨z,us,r,⟨_,Heap.get?_push_size _ rfl,rfl,_,rfl,rfl⟩⟩
theorem pe_lst (h:PA X es t):PE X (.List es pos) (tLst t):=by
 ¿pins s σ H Q I hq;¶wpAny_List_spliced (thn (h pos pins s σ H _ I hq) λus s1 ⟨xs,H1,I1,r,z,q⟩=>⟨by rw[←r.length];§z,?_⟩);¤hf:H1 s1.heap.objs.size=none:=I1.hok.fresh (Nat.le_refl _);¶⟨.ref s1.heap.objs.size,upd H1 s1.heap.objs.size (.lst xs),I1.laid (t':=s1.toks) (λb u e=>Heap.get?_push_of_some _ e) (Nat.le_refl _) ?_,rfl,q _ hf⟩;§⟨z,us,0,r,Heap.get?_push_size _ rfl⟩
end
abbrev Sp:=List V→Hp→VK→XK→Prop
abbrev CXT:=List Env→Hp→Shared→XK→Value→Shared→Prop
structure Env0 (P:Program) (w:World) (K:PySem.W.Frag) (mg:Str→Option Value) (base:Heap) (A:Around) (outer:List Env) (s:Shared) (H:Hp):Prop where
 frames:A.frames=some outer
 mod:Mod K mg base
 bs:∀b o,base.get? b=some o→s.heap.get? b=some o∧H b=none
 bsz:base.objs.size≤s.heap.objs.size
 se:s.heap.FunFrames base outer
 frf:∀b∈frs outer,H b=none
 hok:HOk P w H s.heap
 bare:AllBare s.gens
def CE (outer:List Env) (P:Program) (w:World) (H:Hp) (s:Shared) (Q:VK) (u:Value) (s':Shared):Prop:=
 ∃v H',s'.os=s.os∧AllBare s'.gens∧Un (frs outer) [] H H' s.heap s'.heap∧HOk P w H' s'.heap∧RelV v u∧Q v H'
def CR (CX:CXT) (outer:List Env) (P:Program) (w:World) (H:Hp) (s:Shared) (Q:VK) (E:XK) (r:Result) (s':Shared):Prop:=
 match r with
 | .ok (.ret u)=>CE outer P w H s Q u s'
 | .ok _=>False
 | .error e=>CX outer H s E e s'
structure qc (P:Program) (w:World) (K:PySem.W.Frag) (mg:Str→Option Value) (base:Heap) (CX:CXT) (k:Nat) (f:Addr) (fd:FuncData) (ps:List Str) (sp:Sp):Prop where
 len:∀vs H Q E,sp vs H Q E→vs.length=ps.length
 run:∀(A:Around) (outer:List Env) (s:Shared) (H:Hp) (args:Args) (us:List Value) (vs:List V) (Q:VK) (E:XK),iy k A→Env0 P w K mg base A outer s H→BindsTo s fd args (ps.zip us)→Vals vs us→sp vs H Q E→
  codeAny (model P w) A (.call (.ref f) args) (CR CX outer P w H s Q E) s
theorem qc.mono {P:Program} {w:World} {K:PySem.W.Frag} {mg:Str→Option Value} {base:Heap} {CX:CXT} {j k:Nat} {f:Addr} {fd:FuncData} {ps:List Str} {sp:Sp} (F:qc P w K mg base CX j f fd ps sp) (h:j≤k):
  qc P w K mg base CX k f fd ps sp:=⟨F.len,λA outer s H args us vs Q E hr=>F.run A outer s H args us vs Q E (hr.mono h)⟩
section
variable {X:Cx} {pins:List (Addr×Obj)} {σ:St} {H:Hp} {s s':Shared}
theorem Inv.env0 (I:Inv X pins σ H s):Env0 X.prog X.w X.K X.mg X.base X.A X.stack s H:=
 ⟨I.ok.frames,I.ok.mod,I.bs,Nat.le_trans I.ok.bsz I.sz,I.stack,I.Fw,I.hok,I.bare⟩
theorem Inv.after {Q:VK} {u:Value} (I:Inv X pins σ H s) (h:CE X.stack X.prog X.w H s Q u s'):EP X pins σ Q u s':=by
 £⟨v,H',os,bare,un,hok,r,q⟩:=h;£⟨hh,g,d,t,os'⟩:=s';£rfl:os'=s.os:=os;§⟨v,H',I.call (h':=hh) (g':=g) (d':=d) (t':=t) (ch:=[]) un hok bare (λb z=>absurd z (by simp)),r,q⟩
end
def M4 (sp:Sp) (dvs:List V) (E:XK) (t:TA):TE:=λσ H Q=>t σ H λvs H1=>sp (vs++dvs) H1 Q E
def Binds (K:PySem.W.Frag) (fd:FuncData) (ps:List Str) (ds:List Value):Prop:=
 ∀(s:Shared) (us:List Value),K.In s.heap→(us++ds).length=ps.length→BindsTo s fd ⟨us,[]⟩ (ps.zip (us++ds))
theorem Binds.all {K:PySem.W.Frag} {fd:FuncData} {ps:List Str} (h:∀us:List Value,us.length=ps.length→bindArgs fd ⟨us,[]⟩=pure (ps.zip us)):Binds K fd ps []:=λs us _ hl=>by
 rw[List.append_nil] at hl ⊢;§.of_eq (h us hl)
def Passes (CX:CXT) (X:Cx) (E:XK):Prop:=∀(pins:List (Addr×Obj)) (σ:St) (H:Hp) (s:Shared) (e:Value) (s':Shared),Inv X pins σ H s→CX X.stack H s E e s'→X.xe e s'
section
variable {X:Cx} {CX:CXT} {k:Nat} {f C:Addr} {fd:FuncData} {ps:List Str} {sp:Sp} {dvs:List V} {ds:List Value} {E:XK} {x m:Str} {p pos apos:Pos} {e o:Expr} {es:List Expr} {ta:TE} {t:TA}
theorem run_fn {pins:List (Addr×Obj)} {σ:St} {H:Hp} {s:Shared} {Q:VK} {us:List Value} {vs:List V} (F:qc X.prog X.w X.K X.mg X.base CX k f fd ps sp) (hr:iy k X.A) (hb:Binds X.K fd ps ds) (hd:Vals dvs ds) (hx:Passes CX X E)
  (I:Inv X pins σ H s) (r:Vals vs us) (h:sp (vs++dvs) H Q E):wpAny (model X.prog X.w) X.A (call (.ref f) us) (EP X pins σ Q) X.xe s:=by
 ¤r2:Vals (vs++dvs) (us++ds):=r.append hd;¤hl:(us++ds).length=ps.length:=by rw[←r2.length];§F.len _ _ _ _ h
 ¶wpAny_call (codeAny_mono (F.run X.A X.stack s H ⟨us,[]⟩ (us++ds) (vs++dvs) Q E hr I.env0 (hb s us I.kIn hl) r2 h) λr s' hq=>?_);cases r with
 | error e=>§hx pins σ H s e s' I hq
 | ok fl=>
  cases fl with
  | ret u=>§I.after hq
  | next=>§False.elim hq
  | brk=>§False.elim hq
  | cont=>§False.elim hq
theorem Ox (F:qc X.prog X.w X.K X.mg X.base CX k f fd ps sp) (hr:iy k X.A) (hg:Gl X x) (hm:X.mg x=some (.ref f)) (hk:PySem.W.keepIn X.K (.ref f)=true) (hb:Binds X.K fd ps ds) (hd:Vals dvs ds) (hx:Passes CX X E)
  (ha:PA X (e::es) t) (hdb:(x==("__debug__":Str))=false:=by decide) (he:starEach (e::es) X.env=(false,eval e X.env)::starEach es X.env:=by rfl) (hpl:(backTo pos (starEach es X.env)).any (·.1)=false:=by rfl):
  PE X (.Call (.Name x p) (e::es) [] pos) (M4 sp dvs E t):=by
 ¿pins s σ H Q I h;¶wpAny_Call_Name_kw (Gu I hg hm ?_ hdb);¶PySem.W.callWith_K (h₀:=X.base) I.ok.mod.kin hk (thn (ha pos pins s σ H _ I h) λus s1 ⟨vs,H1,I1,r,q⟩=>⟨I1.kIn,?_⟩) he hpl;§run_fn F hr hb hd hx I1 r q
end
section
variable {X:Cx} {CX:CXT} {k:Nat} {f C:Addr} {fd:FuncData} {ps ks:List Str} {sp:Sp} {E:XK} {x m:Str} {p pos apos kpos:Pos} {e o:Expr} {es:List Expr} {kws:List Keyword} {te ta:TE} {t tk:TA} {nm:Option Str}
variable {g:List Value→List Value→List Value} {gV:List V→List V→List V}
end
structure az (N P:List Str) (sc:Scope):Prop where
 kind:sc.kind=.function
 co:sc.isCoroutine=false
 gen:sc.isGenerator=false
 nd:N.Nodup
 pre:N.take P.length=P
 par:∀x∈P,sc.names.lookup x=some .local∨sc.names.lookup x=some .cell
 nofree:∀y∈sc.names,y.2≠.free
theorem ya {kindOf:Str→Option NameKind} {x:Str}:∀{binds:List (Str×Value)} {m:Str→Option Value},(∀v,(x,v)∉binds)→bindL kindOf binds m x=m x
 | [],_,_=>rfl
 | (n,v)::r,m,h=>by
  unfold bindL;rw[ya λw hw=>h w (List.mem_cons_of_mem _ hw)];split
  ·have:x≠n:=by rintro rfl;§h v List.mem_cons_self
   simp[this]
  ·rfl
theorem yi {kindOf:Str→Option NameKind} {x:Str}:∀{binds:List (Str×Value)} {m:Str→Option Value},(∀v,(x,v)∉binds)→bindC kindOf binds m x=m x
 | [],_,_=>rfl
 | (n,v)::r,m,h=>by
  unfold bindC;rw[yi λw hw=>h w (List.mem_cons_of_mem _ hw)];split
  ·rfl
  ·have:x≠n:=by rintro rfl;§h v List.mem_cons_self
   simp[this]
theorem xy {kindOf:Str→Option NameKind} {x:Str} {v:Value}:∀{P:List Str} {vs:List Value} {i:Nat} {m:Str→Option Value},P.Nodup→P[i]?=some x→vs[i]?=some v→kindOf x=some .local→
  bindL kindOf (P.zip vs) m x=some v
 | [],_,_,_,_,h,_,_=>by simp at h
 | _::_,[],_,_,_,_,h,_=>by simp at h
 | p::P,w::vs,0,m,nd,h1,h2,hk=>by
  simp at h1 h2;subst h1;subst h2;show bindL kindOf ((p,w)::P.zip vs) m p=_
  unfold bindL;rw[ya λv hv=>(List.nodup_cons.mp nd).1 (List.of_mem_zip hv).1,if_pos hk];simp
 | p::P,w::vs,i+1,m,nd,h1,h2,hk=>by
  show bindL kindOf ((p,w)::P.zip vs) m x=_
  unfold bindL;§xy (i:=i) (List.nodup_cons.mp nd).2 (by simpa using h1) (by simpa using h2) hk
theorem x9 {kindOf:Str→Option NameKind} {x:Str} {v:Value}:∀{P:List Str} {vs:List Value} {i:Nat} {m:Str→Option Value},P.Nodup→P[i]?=some x→vs[i]?=some v→kindOf x≠some .local→
  bindC kindOf (P.zip vs) m x=some v
 | [],_,_,_,_,h,_,_=>by simp at h
 | _::_,[],_,_,_,_,h,_=>by simp at h
 | p::P,w::vs,0,m,nd,h1,h2,hk=>by
  simp at h1 h2;subst h1;subst h2;show bindC kindOf ((p,w)::P.zip vs) m p=_
  unfold bindC;rw[yi λv hv=>(List.nodup_cons.mp nd).1 (List.of_mem_zip hv).1,if_neg hk];simp
 | p::P,w::vs,i+1,m,nd,h1,h2,hk=>by
  show bindC kindOf ((p,w)::P.zip vs) m x=_
  unfold bindC;§x9 (i:=i) (List.nodup_cons.mp nd).2 (by simpa using h1) (by simpa using h2) hk
noncomputable def start (N:List Str) (vs:List V):St:=vs.map some++List.replicate (N.length - vs.length) none
noncomputable def sd (CX:CXT) (P:Program) (w:World) (K:PySem.W.Frag) (mg:Str→Option Value) (base:Heap) (N:List Str) (qual:Str) (scope:Scope) (f:Addr) (cd:Value) (A:Around) (outer:List Env) (s:Shared) (H:Hp) (E:XK):Cx where
 prog:=P
 w:=w
 K:=K
 mg:=mg
 base:=base
 A:=A.deeper (envOfC qual scope s.heap.objs.size f cd)
 N:=N
 s₀:=s
 H₀:=H
 env:=envOfC qual scope s.heap.objs.size f cd
 outer:=outer
 stack:=envOfC qual scope s.heap.objs.size f cd::outer
 ex:=[]
 calm:=true
 fn:=λ_=>true
 pn:=[]
 xe:=λe s'=>wpAny (model P w) (A.deeper (envOfC qual scope s.heap.objs.size f cd)) (leaving (envOfC qual scope s.heap.objs.size f cd) e) (λ_ s''=>CX outer H s E e s'') (λe' s''=>CX outer H s E e' s'') s'
theorem Cv {sc:Scope} {n:Nat} {x:Str} (h:sc.names.lookup x=some .cell):∃c,(cellsFrom n sc.names []).lookup x=some c:=by
 ¤q:=PySem.W.cellsFrom_some sc.names n [] (.inl h);§Option.isSome_iff_exists.mp q
theorem Hc {CX:CXT} {P:Program} {w:World} {K:PySem.W.Frag} {mg:Str→Option Value} {base:Heap} {N ps:List Str} {qual:Str} {scope:Scope} {f:Addr} {cd:Value} {A:Around} {outer:List Env} {s s1:Shared} {H:Hp} {E:XK} {us:List Value} {vs:List V}
  (S:az N ps scope) (hd:A.handled=none) (e0:Env0 P w K mg base A outer s H) (hl:vs.length=ps.length) (r:Vals vs us)
  (x:InCallC s s.heap.objs.size (bindL (envOfC qual scope s.heap.objs.size f cd).kindOf (ps.zip us) λ_=>none) (cellsFrom (s.heap.objs.size+1) scope.names []) (bindC (envOfC qual scope s.heap.objs.size f cd).kindOf (ps.zip us) λ_=>none) s1):
  Inv (sd CX P w K mg base N qual scope f cd A outer s H E) [] (start N vs) H s1:=by
 ¤hpl:ps.length≤N.length:=by have:=congrArg List.length S.pre;rw[List.length_take] at this;¡
 £⟨h1,tk,rfl,hk⟩:=x.done;¤noA:∀b:Addr,b∉(sd CX P w K mg base N qual scope f cd A outer s H E).ex:=λb z=>absurd (show b∈([]:List Addr) from z) (by simp);¶⟨⟨e0.mod,S.kind,rfl,rfl,Nat.le_refl _,λy z c h1 h2=>?_,λy hy=>?_,λy c _ h=>?_,λ_=>hd,Around.frames_deeper e0.frames,.inr ⟨rfl,rfl⟩,λb z=>absurd z (noA b),e0.bs,e0.bsz,λb _ _=>noA b,λb z=>absurd z (noA b),e0.se,e0.frf⟩,
  rfl,e0.bare,Un.kept hk,⟨_,x.toInCall.ns,λi y v h1 h2 h3=>?_⟩,λy c h=>⟨_,x.cell y c h⟩,e0.hok.fresh (Nat.le_refl _),λy c h=>?_,λp hp=>absurd (show p∈([]:List (Addr×Obj)) from hp) (by simp),e0.hok.kept hk,?_⟩
 ·§name_of_addr x.apart (PySem.mem_of_lookup h1) (PySem.mem_of_lookup h2)
 ·¤hy:scope.names.lookup y=some .cell∨scope.names.lookup y=some .free:=hy;rcases hy with hy | hy
  ·§Cv hy
  ·§absurd rfl (S.nofree _ (PySem.mem_of_lookup hy))
 ·§Nat.le_of_lt (x.above y c (PySem.mem_of_lookup h))
 ·¤hi:i < vs.length:=by
   unfold start at h2;¦hi:i < vs.length
   ·§hi
   ·rw[List.getElem?_append_right (by simpa using hi)] at h2;rw[List.getElem?_replicate] at h2;split at h2 <;> cases h2
  ¤ha:vs[i]?=some v:=by
   unfold start at h2;rw[List.getElem?_append_left (by simpa using hi),List.getElem?_map] at h2;cases e:vs[i]? with
   | none=>rw[e] at h2;cases h2
   | some a=>rw[e] at h2;cases h2;rfl
  £⟨u,hu,rv⟩:=r.get ha;¤hp:ps[i]?=some y:=by
   rw[←S.pre,List.getElem?_take_of_lt ¥];§h1
  ¤ndP:ps.Nodup:=by rw[←S.pre];§S.nd.sublist (List.take_sublist _ _)
  ¶⟨u,rv,?_⟩;rcases S.par y (List.mem_of_getElem? hp) with k | k
  ·§.inl ⟨k,xy ndP hp hu k⟩
  ·£⟨c,e⟩:=Cv (n:=s.heap.objs.size+1) k;¶.inr ⟨.inl k,c,e,?_⟩;¤q:=x.cell y c e;rw[x9 ndP hp hu (by show scope.names.lookup y≠_;rw[k];decide)] at q;§q
 ·§e0.hok.fresh (Nat.le_of_lt (x.above y c (PySem.mem_of_lookup h)))
 ·unfold start;show _=N.length
  rw[List.length_append,List.length_map,List.length_replicate];¡
theorem fn_of {CX:CXT} {P:Program} {w:World} {K:PySem.W.Frag} {mg:Str→Option Value} {base:Heap} {k:Nat} {f:Addr} {name qual:Str} {params:Arguments} {body:List Stmt} {scope:Scope} {dV kV doc pm cdv ct oc:Value} {an od:Option Addr}
  {osl:Array (Option Value)} {N ps:List Str} {sp:Sp} (lk:K.lookup f=some ⟨oc,od,.func (PySem.W.fnOf name qual params body scope dV kV doc pm an cdv ct),osl⟩) (hcd:PySem.W.codeIn K cdv qual=true) (S:az N ps scope)
  (len:∀vs H Q E,sp vs H Q E→vs.length=ps.length)
  (hbody:∀(A:Around) (outer:List Env) (s:Shared) (H:Hp) (vs:List V) (Q:VK) (E:XK),iy k (A.deeper (envOfC qual scope s.heap.objs.size f cdv))→sp vs H Q E→
   ∃t,PSs (sd CX P w K mg base N qual scope f cdv A outer s H E) body t∧t { nx:=λ_ H'=>Q .non H',rt:=Q } (start N vs) H):
  qc P w K mg base CX (k+1) f (PySem.W.fnOf name qual params body scope dV kV doc pm an cdv ct) ps sp:=by
 ¶⟨len,λA outer s H args us vs Q E hr e0 hb r hsp=>?_⟩;¤hl:=len _ _ _ _ hsp;¤KX:K.In s.heap:=e0.mod.kin.keeps λb o e=>(e0.bs b o e).1;¤lim:s.heap.NoLimit:=e0.mod.nolimit.keeps λb o e=>(e0.bs b o e).1;¤hkind:∀y∈ps.zip us,scope.names.lookup y.1=some .local∨(scope.names.lookup y.1=some .cell∧((cellsFrom (s.heap.objs.size+1) scope.names []).lookup y.1).isSome=true):=λ⟨n,v⟩ hy=>by
  rcases S.par n (List.of_mem_zip hy).1 with q | q
  ·§.inl q
  ·§.inr ⟨q,PySem.W.cellsFrom_some _ _ _ (.inl q)⟩
 ¶codeAny_call_function hr.depth (KX _ _ lk) rfl S.co S.gen rfl (PySem.W.codeRec_of KX hcd) (hb _ _ _ _ ?_);¶wpAny_newFunctionEnv_cells S.kind hkind λenv he s1 x=>?_;subst he;¶⟨lim.keeps x.toInCall.keep,codeAny_func ?_⟩;£⟨t,ht,hq⟩:=hbody A outer s H vs Q E (hr.deeper _) hsp;¤I:Inv (sd CX P w K mg base N qual scope f cdv A outer s H E) [] (start N vs) H s1:=Hc S hr.hd e0 hl r x;¶wpAny_mono (ht [] s1 (start N vs) H _ I hq) (λfl s' hs=>?_) λe s' hs=>hs;¤fin:∀{σ':St} {H':Hp} {v:V} {u:Value},Inv (sd CX P w K mg base N qual scope f cdv A outer s H E) [] σ' H' s'→RelV v u→Q v H'→CE outer P w H s Q u s':=
  λ{σ' H' v u} J rv q=>⟨v,H',J.os,J.bare,J.base,J.hok,rv,q⟩
 cases fl with
 | ret u=>
  £⟨v,σ',H',J,rv,q⟩:=hs;§fin J rv q
 | next=>
  £⟨σ',H',J,q⟩:=hs;§fin (v:=V.non) (u:=Value.none) J rfl q
 | brk=>
  £⟨_,_,_,q⟩:=hs;§False.elim q
 | cont=>
  £⟨_,_,_,q⟩:=hs;§False.elim q
end L2
namespace L2
open PySem PySem.Spec PyProof.Rows
section
variable {X:Cx} {x:Str} {p pos:Pos} {e:Expr} {es:List Expr} {t:TA} {id T:String} {r:List V→Hp→VK→Prop}
def tCB (r:List V→Hp→VK→Prop) (t:TA):TE:=λσ H Q=>t σ H λvs H1=>r vs H1 Q
theorem L9 (hc:gw X (.builtin id) r) (hg:Gl X x) (hm:X.mg x=none) (hv:bootBuiltins x=some (.builtin id)) (ha:PA X (e::es) t) (hn:x≠"__name__":=by decide) (hdb:(x==("__debug__":Str))=false:=by decide)
  (he:starEach (e::es) X.env=(false,eval e X.env)::starEach es X.env:=by rfl) (hpl:(backTo pos (starEach es X.env)).any (·.1)=false:=by rfl):PE X (.Call (.Name x p) (e::es) [] pos) (tCB r t):=by
 ¿pins s σ H Q I h;¶wpAny_Call_Name_kw (jq I hg hm hv ?_ hn hdb);§PyProof.Rows.callWith_builtin1 (thn (ha pos pins s σ H _ I h) λus s1 ⟨vs,H1,I1,r1,q1⟩=>hc pins s1 σ H1 vs us Q I1 r1 q1) he hpl
theorem Hj (hc:gw X (.type T) r) (hg:Gl X x) (hm:X.mg x=none) (hv:bootBuiltins x=some (.type T)) (ha:PA X (e::es) t) (hn:x≠"__name__":=by decide) (hdb:(x==("__debug__":Str))=false:=by decide)
  (he:starEach (e::es) X.env=(false,eval e X.env)::starEach es X.env:=by rfl) (hpl:(backTo pos (starEach es X.env)).any (·.1)=false:=by rfl):PE X (.Call (.Name x p) (e::es) [] pos) (tCB r t):=by
 ¿pins s σ H Q I h;¶wpAny_Call_Name_kw (jq I hg hm hv ?_ hn hdb);§PyProof.Rows.callWith_type1 (thn (ha pos pins s σ H _ I h) λus s1 ⟨vs,H1,I1,r1,q1⟩=>hc pins s1 σ H1 vs us Q I1 r1 q1) he hpl
end
end L2
namespace HT
open PySem PyProof.Rows
section
open PySem.SeqAt
open PySem.AutoSeq1 (wpAny_loadPart')
open PySem.MeetsSeq PySem.MeetsSeq2 PySem.MeetsSeq3
end
section
variable {prog:Program} {w:World} {A:Around} {E:Value→Shared→Prop} {s:Shared}
theorem Np {t b:Addr} {vs ws:List Value} {Q:Value→Shared→Prop} (ht:IsTup s.heap t vs.toArray) (hb:IsTup s.heap b ws.toArray) (hv:vs≠[])
  (h1:ws=[]→Q (.ref t) s) (h2:ws≠[]→Q (.ref s.heap.objs.size) { s with heap:=s.heap.push { cls:=.type "tuple",data:=.seq (vs++ws).toArray } })
  (hsz:vs.length+ws.length≤sizeLine):wpAny (model prog w) A (binaryOp .Add (.ref t) (.ref b)) Q E s:=by
 £⟨⟨cls,dd,data,sl⟩,ho,hc,n,hd⟩:=id ht;£⟨⟨cls2,dd2,data2,sl2⟩,ho2,hc2,n2,hd2⟩:=id hb;simp only at hc hd hc2 hd2;subst hc hd hc2 hd2;¤e:vs.toArray++ws.toArray=(vs++ws).toArray:=by simp
 ¦hw:ws=[]
 ·§concat_meets ⟨_,ho,rfl⟩ ⟨_,ho2,rfl⟩ noFill_tuple_add seq_tuple_add PySem.F.slot_tuple_add PySem.F.entry_tuple_add (PySem.F.args_tuple_add_2 _ _)
   (tuple_addW1 t b vs.toArray ws.toArray n n2 dd dd2 sl sl2 (by simpa using hv) (by simp[hw])) ⟨ho,ho2,h1 hw⟩
 ·¶concat_meets ⟨_,ho,rfl⟩ ⟨_,ho2,rfl⟩ noFill_tuple_add seq_tuple_add PySem.F.slot_tuple_add PySem.F.entry_tuple_add (PySem.F.args_tuple_add_2 _ _)
   (tuple_addW2 t b vs.toArray ws.toArray n n2 dd dd2 sl sl2 (by simpa using hv) (by simpa using hw) (by rw[List.size_toArray,List.size_toArray];§hsz)) ⟨ho,ho2,?_⟩
  rw[e];§h2 hw
noncomputable def sIx (n d:Nat):Option Int→Nat
 | none=>d
 | some v=>if v < 0 then (v+(n:Int)).toNat else min v.toNat n
theorem Bb (n d:Nat):sIx n d none=d:=rfl
theorem Gy (n d k:Nat):sIx n d (some (k:Int))=min k n:=by
 show (if (k:Int) < 0 then ((k:Int)+(n:Int)).toNat else min (k:Int).toNat n)=min k n
 rw[if_neg ¥,Int.toNat_natCast]
theorem sIx_le (n d:Nat) (hd:d≤n) (o:Option Int):sIx n d o≤n:=by
 cases o with
 | none=>§hd
 | some v=>
  show (if v < 0 then (v+(n:Int)).toNat else min v.toNat n)≤n
  ¦hv:v < 0
  ·rw[if_pos hv];¡
  ·rw[if_neg hv];§Nat.min_le_right _ _
theorem Gq (v:Int) (n d:Nat):(if v < 0 then max (v+(n:Int)) 0 else min v (n:Int))=((sIx n d (some v):Nat):Int):=by
 show (if v < 0 then max (v+(n:Int)) 0 else min v (n:Int))=(((if v < 0 then (v+(n:Int)).toNat else min v.toNat n):Nat):Int)
 ¦hv:v < 0
 ·simp only[if_pos hv];¡
 ·simp only[if_neg hv];¡
theorem Dq (lo hi:Option Int) (n:Nat):Builtin.Slice.sliceAdjust lo hi 1 (n:Int)=(((sIx n 0 lo:Nat):Int),((sIx n n hi:Nat):Int)):=by
 ¤h1:¬((1:Int) < 0):=by ¡
 unfold Builtin.Slice.sliceAdjust;simp only[h1,if_false];¶Prod.ext ?_ ?_
 ·cases lo with
  | none=>rfl
  | some v=>§Gq v n 0
 ·cases hi with
  | none=>rfl
  | some v=>§Gq v n n
theorem Df (i j:Nat):Builtin.Slice.slicePlaces (i:Int) (j:Int) 1=j - i:=by
 unfold Builtin.Slice.slicePlaces;¤h1:(1:Int) > 0:=by ¡
 simp only[h1,if_true,Int.ediv_one];split <;> ¡
theorem ux {v:Value} {o:Option Int} {Q:Option Int→Shared→Prop} (p:IsPart v o) (h:Q o s):wpAny (model prog w) A (Builtin.Slice.slicePartIndex v) Q E s:=by
 cases p with
 | none=>§slicePart_none h
 | int i t=>§slicePart_int h
theorem i8 {sl:Addr} {vl vu:Value} {lo hi:Option Int} {n:Nat} {Q:Int×Int×Nat→Shared→Prop} (hs:s.heap.IsSliceOf sl vl vu .none) (pl:IsPart vl lo) (pu:IsPart vu hi)
  (h:Q (((sIx n 0 lo:Nat):Int),1,sIx n n hi - sIx n 0 lo) s):wpAny (model prog w) A (Builtin.Slice.sliceApplied (.ref sl) (pure (n:Int))) Q E s:=by
 £⟨os,hos,hcs,hds⟩:=id hs;unfold Builtin.Slice.sliceApplied Builtin.Slice.sliceFields;¶wpAny_bind (wpAny_bind (wpAny_field hos hds (x:=vl) rfl (wpAny_bind (wpAny_field hos hds (x:=vu) rfl (wpAny_bind (wpAny_field hos hds (x:=.none) rfl (wpAny_pure ?_)))))));¶wpAny_bind (slicePart_none ?_);show wpAny _ _ (if ((1:Int)==0)=true then _ else _) _ _ s
 rw[if_neg (by decide)];¶wpAny_bind (ux pl (wpAny_bind (ux pu (wpAny_bind (wpAny_pure ?_)))));show wpAny _ _ (match Builtin.Slice.sliceAdjust lo hi 1 (n:Int) with | (lo,hi)=>pure (lo,(1:Int),Builtin.Slice.slicePlaces lo hi 1)) _ _ s
 rw[Dq lo hi n];show wpAny _ _ (pure (((sIx n 0 lo:Nat):Int),(1:Int),Builtin.Slice.slicePlaces ((sIx n 0 lo:Nat):Int) ((sIx n n hi:Nat):Int) 1)) _ _ s
 rw[Df];§wpAny_pure h
theorem Jv (xs:Array Value) (i k:Nat):((List.range k).filterMap λ(m:Nat)=>xs[((i:Int)+(m:Int)*1).toNat]?).toArray=((xs.toList.drop i).take k).toArray:=by
 ¤e:(λ(m:Nat)=>xs[((i:Int)+(m:Int)*1).toNat]?)=λm=>xs[i+m]?:=by
  funext m
  have:((i:Int)+(m:Int)*1).toNat=i+m:=by ¡
  rw[this]
 rw[e];have:=pick_run xs i k;rw[List.filterMap_map] at this;¤e2:((λx=>xs[x]?) ∘ λx=>i+x)=λm=>xs[i+m]?:=rfl;rw[e2] at this;rw[this]
theorem pz {t sl:Addr} {items:Array Value} {vl vu:Value} {lo hi:Option Int} {Q:Value→Shared→Prop} (ht:IsTup s.heap t items) (hs:s.heap.IsSliceOf sl vl vu .none) (pl:IsPart vl lo) (pu:IsPart vu hi)
  (hw:¬(sIx items.size 0 lo=0∧sIx items.size items.size hi=items.size))
  (h:Q (.ref s.heap.objs.size) { s with heap:=s.heap.push { cls:=.type "tuple",data:=.seq ((items.toList.drop (sIx items.size 0 lo)).take (sIx items.size items.size hi - sIx items.size 0 lo)).toArray } })
  (hsz:items.size≤sizeLine):wpAny (model prog w) A (getItem (.ref t) (.ref sl)) Q E s:=by
 ¤htake:sizeOk (.seq ((items.toList.drop (sIx items.size 0 lo)).take (sIx items.size items.size hi - sIx items.size 0 lo)).toArray):=by
  show ((items.toList.drop (sIx items.size 0 lo)).take (sIx items.size items.size hi - sIx items.size 0 lo)).toArray.size≤sizeLine
  rw[List.size_toArray,List.length_take,List.length_drop,Array.length_toList];¡
 ¤hj:sIx items.size items.size hi≤items.size:=sIx_le _ _ (Nat.le_refl _) hi;£⟨os,hos,hcs,hds⟩:=id hs;¤hTs:s.TypeIs (.ref sl) "slice":=⟨os,hos,hcs⟩;unfold getItem;try with_reducible ¶wpAny_holding ?_
 first | ¶wpAny_bind (wpAny_pure ?_) | skip
 ¶wpAny_bind (wpAny_sequenceKey ht.typeIs (by decide) ?_);¶wpAny_bind (wpAny_callSpecial?_slot (name:=Str.ofString "__getitem__") ht.typeIs PyProof.Rows.slot_tuple_getitem
  (wpAny_call_entry PyProof.Rows.slot_tuple_getitem ht.typeIs entry_tuple_getitem ?_ (args_tuple_getitem _ _)))
 show wpAny _ _ (Builtin.Tuple.tupleItemsOf (.ref t) >>=_) _ _ s
 ¶wpAny_bind (tupleItemsOf_ ht ?_);¶wpAny_bind (wpAny_typeOf hTs ?_);rw[if_pos (by decide)];¶wpAny_bind (i8 hs pl pu ?_);¤hno:¬((((sIx items.size 0 lo:Nat):Int)==0&&(1:Int)==1&&(sIx items.size items.size hi - sIx items.size 0 lo)==items.size)=true):=by
  ¿q;rw[Bool.and_eq_true,Bool.and_eq_true] at q;¤q1:((sIx items.size 0 lo:Nat):Int)=0:=eq_of_beq q.1.1;¤q2:sIx items.size items.size hi - sIx items.size 0 lo=items.size:=eq_of_beq q.2;§hw ⟨¥,¥⟩
 show wpAny _ _ (if (((sIx items.size 0 lo:Nat):Int)==0&&(1:Int)==1&&(sIx items.size items.size hi - sIx items.size 0 lo)==items.size)=true then _ else _) _ _ s
 rw[if_neg hno,Jv];first
  | §wpAny_bind (m:=Builtin.Tuple.tupleExact _) (wpAny_newObj_type (wpAny_pure ⟨_,rfl,wpAny_pure h⟩) htake)
  | §wpAny_bind (m:=Builtin.Tuple.tupleExact _) (wpAny_newObj_type (wpAny_bind (wpAny_pure (wpAny_pure ⟨_,rfl,wpAny_pure h⟩))) htake)
  | §wpAny_bind (wpAny_bind (m:=Builtin.Tuple.tupleExact _) (wpAny_newObj_type (wpAny_pure (wpAny_pure ⟨_,rfl,wpAny_pure h⟩)) htake))
  | §wpAny_bind (wpAny_bind (m:=Builtin.Tuple.tupleExact _) (wpAny_newObj_type (wpAny_pure ⟨_,rfl,wpAny_pure h⟩) htake))
end
end HT
namespace L2
open PySem PySem.Spec PyProof.Rows
abbrev TO:=St→Hp→(Option Int→Hp→Prop)→Prop
def PO (X:Cx) (e:Option Expr) (t:TO):Prop:=
 ∀(pins:List (Addr×Obj)) (s:Shared) (σ:St) (H:Hp) (Q:Option Int→Hp→Prop),Inv X pins σ H s→t σ H Q→
  wpAny (model X.prog X.w) X.A (evalPart e X.env) (λu s'=>∃o H',Inv X pins σ H' s'∧IsPart u o∧Q o H') X.xe s
def E4:TO:=λ_ H Q=>Q none H
def K0 (t:TE):TO:=λσ H Q=>t σ H λx H1=>∃i,x=.int i∧Q (some i) H1
section
variable {X:Cx} {e:Expr} {te:TE} {lo hi:Option Expr} {tl th:TO} {pos p2:Pos}
theorem Pu:PO X none E4:=by
 ¿pins s σ H Q I h;rw[evalPart_none];§wpAny_pure ⟨none,H,I,.none,h⟩
theorem Pg (h:PE X e te):PO X (some e) (K0 te):=by
 ¿pins s σ H Q I hw;rw[evalPart_some];¶thn (h pins s σ H _ I hw) λu s1 ⟨x,H1,I1,r1,q1⟩=>?_;£⟨i,rfl,q⟩:=q1;£⟨t,rfl⟩:=r1;§⟨some i,H1,I1,.int i t,q⟩
def SlR (X:Cx) (r:V→Option Int→Option Int→Hp→VK→Prop):Prop:=
 ∀(pins:List (Addr×Obj)) (s:Shared) (σ:St) (H:Hp) (x:V) (v vl vu:Value) (lo hi:Option Int) (sl:Addr) (Q:VK),Inv X pins σ H s→RelV x v→s.heap.IsSliceOf sl vl vu .none→IsPart vl lo→IsPart vu hi→r x lo hi H Q→
  ∃T id,typeLookup (.type T) "__getitem__"=pure (some (.builtin id))∧s.TypeIs v T∧wpAny (model X.prog X.w) X.A (getItem v (.ref sl)) (EP X pins σ Q) X.xe s
def tSl (r:V→Option Int→Option Int→Hp→VK→Prop) (te:TE) (tl th:TO):TE:=λσ H Q=>te σ H λx H1=>tl σ H1 λl H2=>th σ H2 λu H3=>r x l u H3 Q
theorem Kc {r:V→Option Int→Option Int→Hp→VK→Prop} (hr:SlR X r) (he:PE X e te) (hl:PO X lo tl) (hu:PO X hi th):PE X (.Subscript e (.Slice lo hi none p2) pos) (tSl r te tl th):=by
 ¿pins s σ H Q I h;¶Subscript_ (thn (he pins s σ H _ I h) λv s1 ⟨x,H1,I1,r1,q1⟩=>?_);¶wpAny_Slice (thn (hl pins s1 σ H1 _ I1 q1) λvl s2 ⟨l,H2,I2,pl,q2⟩=>thn (hu pins s2 σ H2 _ I2 q2) λvu s3 ⟨u,H3,I3,pu,q3⟩=>?_);rw[evalPart_none];¶wpAny_pure ?_;¤I4:Inv X pins σ H3 { s3 with heap:=s3.heap.push { cls:=.type "slice",data:=.fields #[vl,vu,.none] } }:=I3.kept (t':=s3.toks) λb ob q=>Heap.get?_push_of_some _ q;£⟨T,id,hT,ht,hg⟩:=hr pins { s3 with heap:=s3.heap.push { cls:=.type "slice",data:=.fields #[vl,vu,.none] } } σ H3 x v vl vu l u s3.heap.objs.size Q I4 r1 (Heap.IsSliceOf.new ..) pl pu q3;show wpAny (model X.prog X.w) X.A (subscriptTail e (.Slice lo hi none p2) v (.ref s3.heap.objs.size)) (EP X pins σ Q) X.xe { s3 with heap:=s3.heap.push { cls:=.type "slice",data:=.fields #[vl,vu,.none] } }
 §tail_any (ops:=[.ref s3.heap.objs.size,v]) ht hT hg (by with_unfolding_all rfl)
noncomputable def cn (xs:List V) (lo hi:Option Int):List V:=(xs.drop (HT.sIx xs.length 0 lo)).take (HT.sIx xs.length xs.length hi - HT.sIx xs.length 0 lo)
theorem dm (xs:List V) (lo hi:Option Int):(cn xs lo hi).length≤xs.length:=by
 unfold cn;rw[List.length_take,List.length_drop];¡
def rSlT (K:PySem.W.Frag):V→Option Int→Option Int→Hp→VK→Prop:=λx lo hi H Q=>∃a xs,x=.ref a∧SqT K H a xs∧
 ¬(HT.sIx xs.length 0 lo=0∧HT.sIx xs.length xs.length hi=xs.length)∧∀p,H p=none→Q (.ref p) (upd H p (.tup (cn xs lo hi)))
theorem sl_tup:SlR X (rSlT X.K):=by
 ¿pins s σ H x v vl vu lo hi sl Q I rx hs pl pu h;£⟨a,xs,rfl,hx,hw,q⟩:=h;cases rx
 £⟨its,r,ht,hz⟩:=I.tuple hx;¤hlen:its.toArray.size=xs.length:=by rw[List.size_toArray];§r.length.symm
 ¶⟨"tuple",_,PyProof.Rows.slot_tuple_getitem.lookup,ht.typeIs,?_⟩;¶HT.pz ht hs pl pu (by rw[hlen];§hw) ?_ (by rw[hlen];§hz);rw[hlen];¶⟨.ref s.heap.objs.size,_,I.laid (t':=s.toks) (o:=.tup (cn xs lo hi)) (λb ob q=>Heap.get?_push_of_some _ q) (Nat.le_refl _) ?_,rfl,q _ (I.hok.fresh (Nat.le_refl _))⟩;§⟨Nat.le_trans (dm xs lo hi) hz,_,(r.drop (HT.sIx xs.length 0 lo)).take (HT.sIx xs.length xs.length hi - HT.sIx xs.length 0 lo),⟨_,Heap.get?_push_size _ rfl,rfl,_,rfl,rfl⟩⟩
def rCatT (K:PySem.W.Frag):R2:=λx y H Q=>∃a b xs ys,x=.ref a∧y=.ref b∧SqT K H a xs∧SqT K H b ys∧xs≠[]∧xs.length+ys.length≤sizeLine∧
 (ys=[]→Q (.ref a) H)∧(ys≠[]→∀p,H p=none→Q (.ref p) (upd H p (.tup (xs++ys))))
theorem Vals.ug {xs:List V} {us:List Value} (r:Vals xs us):us=[]↔xs=[]:=by
 cases r with
 | nil=>simp
 | cons _ _=>simp
theorem Qm:OpR X (binaryOp .Add) (rCatT X.K):=by
 ¿pins s σ H x y v u Q I rx ry h;£⟨a,b,xs,ys,rfl,rfl,ha,hb,hx,hz,q1,q2⟩:=h;cases rx
 cases ry
 £⟨its,r1,p1,_⟩:=I.tuple ha;£⟨its2,r2,p2,_⟩:=I.tuple hb;¶HT.Np p1 p2 (λz=>hx (r1.ug.mp z)) (λz=>⟨.ref a,H,I,rfl,q1 (r2.ug.mp z)⟩) (λz=>?_) (by rw[←r1.length,←r2.length];§hz);¶⟨.ref s.heap.objs.size,_,I.laid (t':=s.toks) (o:=.tup (xs++ys)) (λb ob q=>Heap.get?_push_of_some _ q) (Nat.le_refl _) ?_,rfl,q2 (λw=>z (r2.ug.mpr w)) _ (I.hok.fresh (Nat.le_refl _))⟩;§⟨by rw[List.length_append];§hz,_,r1.append r2,⟨_,Heap.get?_push_size _ rfl,rfl,_,rfl,rfl⟩⟩
end
end L2
namespace L2
open PySem PySem.Spec PyProof.Rows
noncomputable def ixN (n:Nat) (i:Int):Option Nat:=if 0≤i then (if i < n then some i.toNat else none) else if -(n:Int)≤i then some (i+n).toNat else none
noncomputable def atI {α:Type} (xs:List α) (i:Int):Option α:=(ixN xs.length i).bind λj=>xs[j]?
theorem Fv {n:Nat} {i:Int} {j:Nat} (h:ixN n i=some j):seqIndex? i n=some j∧j < n∧-(n:Int)≤i∧i < n:=by
 unfold ixN at h;¦h0:0≤i
 ·rw[if_pos h0] at h;¦h1:i < n
  ·rw[if_pos h1] at h;¤e:i.toNat=j:=Option.some.inj h;§⟨by rw[seqIndex_of h0 h1,e],¥,¥,h1⟩
  ·rw[if_neg h1] at h;cases h
 ·rw[if_neg h0] at h;¦h1:-(n:Int)≤i
  ·rw[if_pos h1] at h;¤e:(i+n).toNat=j:=Option.some.inj h;§⟨by rw[seqIndex_neg ¥ h1,e],¥,h1,¥⟩
  ·rw[if_neg h1] at h;cases h
theorem Al {α:Type} {xs:List α} {i:Int} {v:α} (h:atI xs i=some v):∃j,seqIndex? i xs.length=some j∧xs[j]?=some v∧j < xs.length∧-(xs.length:Int)≤i∧i < xs.length:=by
 unfold atI at h;cases e:ixN xs.length i with
 | none=>rw[e] at h;cases h
 | some j=>
  rw[e] at h;£⟨h1,h2,h3,h4⟩:=Fv e;§⟨j,h1,h,h2,h3,h4⟩
theorem bo {α:Type} {xs:List α} {j:Nat} {v:α} (h:xs[j]?=some v):atI xs (j:Int)=some v:=by
 ¤hj:j < xs.length:=(List.getElem?_eq_some_iff.mp h).1;¤e:ixN xs.length (j:Int)=some j:=by
  unfold ixN;rw[if_pos ¥,if_pos ¥];simp
 unfold atI;rw[e];§h
def O4 (b:Expr):Prop:=∀o i,subscripted b false o i=operate [o,i] (getItem o i)
def IxR (X:Cx) (r:R2):Prop:=
 ∀(value slice:Expr) (pins:List (Addr×Obj)) (s:Shared) (σ:St) (H:Hp) (x y:V) (v u:Value) (Q:VK),Inv X pins σ H s→RelV x v→RelV y u→r x y H Q→
  subscripted slice false v u=operate [v,u] (getItem v u)→wpAny (model X.prog X.w) X.A (subscriptTail value slice v u) (EP X pins σ Q) X.xe s
def MtR (X:Cx) (id:String) (r:V→List V→Hp→VK→Prop):Prop:=
 ∀(pins:List (Addr×Obj)) (s:Shared) (σ:St) (H:Hp) (x:V) (xs:List V) (v:Value) (us:List Value) (Q:VK),Inv X pins σ H s→RelV x v→Vals xs us→r x xs H Q→
  wpAny (model X.prog X.w) X.A (call (.builtin id) (v::us)) (EP X pins σ Q) X.xe s
section
variable {X:Cx} {a b:Expr} {ta tb:TE} {pos:Pos}
theorem pe_ix {r:R2} (hr:IxR X r) (ha:PE X a ta) (hb:PE X b tb) (hs:O4 b):PE X (.Subscript a b pos) (tOp r ta tb):=by
 ¿pins s σ H Q I h;§Subscript_ (binT ha hb I h λv u s2 x y H2 I2 rx ry q=>hr a b pins s2 σ H2 x y v u Q I2 rx ry q (hs _ _))
def rIxL (K:PySem.W.Frag):R2:=λx y H Q=>∃p xs i v,x=.ref p∧y=.int i∧SqL K H p xs∧atI xs i=some v∧Q v H
def rIxT (K:PySem.W.Frag):R2:=λx y H Q=>∃p xs i v,x=.ref p∧y=.int i∧SqT K H p xs∧atI xs i=some v∧Q v H
def rIxS:R2:=λx y H Q=>∃z i c,x=.str z∧y=.int i∧z.length≤sizeLine∧atI z.cps.toList i=some c∧Q (.str ⟨#[c]⟩) H
theorem Ff:IxR X (rIxL X.K):=by
 ¿value slice pins s σ H x y v u Q I rx ry h hs;£⟨p,xs,i,z,rfl,rfl,hq,he,q⟩:=h;cases rx
 £⟨t,rfl⟩:=ry;£⟨its,r,pl,hz⟩:=I.list hq;£⟨j,h1,h2,h3,h4,h5⟩:=Al he;£⟨w,ew,rw'⟩:=r.get h2;¤hl:=r.length;¤hn:=ur;¤fin:EP X pins σ Q w s:=⟨z,H,I,rw',q⟩;¦h0:0≤i
 ·¤hj:i.toNat=j:=by
   rw[seqIndex_of h0 h5] at h1;§Option.some.inj h1
  §item_listR pl.isList h0 ¥ (by rw[hj];simpa using ew) fin hs
 ·¤hj:(i+(its.toArray.size:Int)).toNat=j:=by
   rw[seqIndex_neg ¥ h4] at h1;rw[List.size_toArray,←hl];§Option.some.inj h1
  §subscriptTail_builtinR (x:=w) pl.isList.typeIs slot_list_getitem.lookup
   (wpAny_getItem_list_neg (Q:=λr s'=>r=w∧EP X pins σ Q r s') pl.isList ¥ (by rw[List.size_toArray] <;> ¡) ¥ (by rw[hj];simpa using ew) ⟨rfl,fin⟩) hs
theorem Kf:IxR X (rIxT X.K):=by
 ¿value slice pins s σ H x y v u Q I rx ry h hs;£⟨p,xs,i,z,rfl,rfl,hq,he,q⟩:=h;cases rx
 £⟨t,rfl⟩:=ry;£⟨its,r,pl,hz⟩:=I.tuple hq;£⟨j,h1,h2,h3,h4,h5⟩:=Al he;£⟨w,ew,rw'⟩:=r.get h2;¤hl:=r.length;¤hn:=ur;¤fin:EP X pins σ Q w s:=⟨z,H,I,rw',q⟩;§subscriptTail_builtinR (x:=w) pl.typeIs slot_tuple_getitem.lookup
  (getItem_tuple (j:=j) (Q:=λr s'=>r=w∧EP X pins σ Q r s') pl ¥ ¥ (by rw[List.size_toArray,←hl];§h1) (by simpa using ew) ⟨rfl,fin⟩) hs
theorem ka:IxR X rIxS:=by
 ¿value slice pins s σ H x y v u Q I rx ry h hs;£⟨z,i,c,rfl,rfl,hz,he,q⟩:=h;£⟨t,rfl⟩:=rx;£⟨t',rfl⟩:=ry;£⟨j,h1,h2,h3,h4,h5⟩:=Al he;¤hl:z.cps.toList.length=z.length:=by simp[Str.length]
 rw[hl] at h1 h4 h5;¤hn:=ur;§tail_any (typeIs_str s z t) slot_str_getitem.lookup (getItem_str (c:=c) (by
  ¤e1:decide (i < -(2 ^ 63:Int))=false:=decide_eq_false ¥;¤e2:decide (i≥2 ^ 63)=false:=decide_eq_false ¥;rw[e1,e2,Bool.or_false]) (by rw[h1];simpa using h2) ⟨.str ⟨#[c]⟩,H,I.tok _,⟨_,rfl⟩,q⟩) hs
theorem Dv (its:List Value) (n j:Nat) (u:Value):Obj.mapSeq (·.setIfInBounds j u) { cls:=.type "list",data:=.seq its.toArray n }={ cls:=.type "list",data:=.seq (its.set j u).toArray n }:=by
 simp[Obj.mapSeq]
theorem Inv.lst {pins:List (Addr×Obj)} {σ:St} {H:Hp} {s:Shared} {p:Addr} {xs:List V} (I:Inv X pins σ H s) (h:H p=some (.lst xs)):
  ∃(its:List Value) (n:Nat),Vals xs its∧s.heap.get? p=some { cls:=.type "list",data:=.seq its.toArray n }∧xs.length≤sizeLine:=by
 £⟨z,its,n,r,e⟩:=I.hok p _ h;§⟨its,n,r,e,z⟩
theorem Inv.lstUpd {pins:List (Addr×Obj)} {σ:St} {H:Hp} {s:Shared} {p:Addr} {xs ys:List V} {its its':List Value} {n n':Nat} {f:Obj→Obj} (I:Inv X pins σ H s) (h:H p=some (.lst xs))
  (ho:s.heap.get? p=some { cls:=.type "list",data:=.seq its.toArray n }) (hf:f { cls:=.type "list",data:=.seq its.toArray n }={ cls:=.type "list",data:=.seq its'.toArray n' }) (r:Vals ys its') (hz:ys.length≤sizeLine) (t:Nat):
  Inv X pins σ (upd H p (.lst ys)) { s with heap:=s.heap.update p f,toks:=t }:=by
 ¤e:(s.heap.update p f).get? p=some { cls:=.type "list",data:=.seq its'.toArray n' }:=by
  rw[Heap.get?_update_self f ho (by rw[hf] <;> rfl),hf]
 ¶I.write (x:=p) (e:=p) (by rw[h];trivial) (.inl rfl) (λb u hb q=>(Heap.get?_update_other _ _ (Ne.symm hb)).trans q) ⟨_,e⟩ ?_;§⟨hz,its',n',r,e⟩
def Mg:V→V→V→Hp→(Hp→Prop)→Prop:=λo i v H Q=>∃p xs k j,o=.ref p∧i=.int k∧H p=some (.lst xs)∧ixN xs.length k=some j∧Q (upd H p (.lst (xs.set j v)))
theorem set_list:PSet X Mg:=by
 ¿pins s σ H o i v ov iv u Q I ro ri rv h;£⟨p,xs,k,j,rfl,rfl,hp,hj,q⟩:=h;cases ro
 £⟨t,rfl⟩:=ri;£⟨its,n,r,ho,hz⟩:=I.lst hp;£⟨h1,h2,h3,h4⟩:=Fv hj;¤hl:=r.length;¤hn:=ur;¤I':Inv X pins σ (upd H p (.lst (xs.set j v))) { s with heap:=s.heap.update p (Obj.mapSeq (·.setIfInBounds j u)) }:=
  I.lstUpd hp ho (Dv its n j u) (r.set rv j) (by rw[List.length_set];§hz) s.toks
 ¦h0:0≤k
 ·¤hk:k.toNat=j:=by
   rw[seqIndex_of h0 h4] at h1;§Option.some.inj h1
  §PySem.W.ki_setAt ho h0 ¥ (by rw[List.size_toArray,←hl];§h4) (by rw[hk];§⟨_,I',q⟩)
 ·¤hk:(k+(its.toArray.size:Int)).toNat=j:=by
   rw[seqIndex_neg ¥ h3] at h1;rw[List.size_toArray,←hl];§Option.some.inj h1
  §PySem.W.ki_setBack ho ¥ (by rw[List.size_toArray,←hl];§h3) ¥ (by rw[hk];§⟨_,I',q⟩)
theorem An (lo hi:Option Int) (n:Nat):(sliceBounds lo hi none n).1=((HT.sIx n 0 lo:Nat):Int)∧(sliceBounds lo hi none n).2.1=((HT.sIx n n hi:Nat):Int)∧(sliceBounds lo hi none n).2.2=1:=by
 ¶⟨?_,?_,rfl⟩
 ·cases lo with
  | none=>simp[sliceBounds,HT.sIx]
  | some i=>
   simp only[sliceBounds,HT.sIx,Option.getD_none,show (1:Int) > 0 by decide,if_true];¦h:i < 0
   ·simp only[h,if_true] <;> ¡
   ·simp only[h,if_false] <;> ¡
 ·cases hi with
  | none=>simp[sliceBounds,HT.sIx]
  | some i=>
   simp only[sliceBounds,HT.sIx,Option.getD_none,show (1:Int) > 0 by decide,if_true];¦h:i < 0
   ·simp only[h,if_true] <;> ¡
   ·simp only[h,if_false] <;> ¡
theorem xq (its:List Value) (lo hi:Option Int):slicePick its.toArray lo hi none=((its.drop (HT.sIx its.length 0 lo)).take (HT.sIx its.length its.length hi - HT.sIx its.length 0 lo)).toArray:=by
 £⟨h1,h2,h3⟩:=An lo hi its.toArray.size;unfold slicePick;rw[h1,h2,h3];simp only[sliceRange_one,pick_run,List.size_toArray] <;> rfl
def rSlL (K:PySem.W.Frag):V→Option Int→Option Int→Hp→VK→Prop:=λx lo hi H Q=>∃a xs,x=.ref a∧SqL K H a xs∧∀p,H p=none→Q (.ref p) (upd H p (.lst (cn xs lo hi)))
theorem Qr:SlR X (rSlL X.K):=by
 ¿pins s σ H x v vl vu lo hi sl Q I rx hs pl pu h;£⟨a,xs,rfl,hx,q⟩:=h;cases rx
 £⟨its,r,ht,hz⟩:=I.list hx;¤hlen:=r.length;¶⟨"list",_,slot_list_getitem.lookup,ht.isList.typeIs,?_⟩;¶wpAny_getItem_list_slice ht.isList hs pl pu .none (by simp) ?_ (by rw[List.size_toArray] <;> ¡);rw[xq,←hlen];¶⟨.ref s.heap.objs.size,_,I.laid (t':=s.toks) (o:=.lst (cn xs lo hi)) (λb ob q=>Heap.get?_push_of_some _ q) (Nat.le_refl _) ?_,rfl,q _ (I.hok.fresh (Nat.le_refl _))⟩;§⟨Nat.le_trans (dm xs lo hi) hz,_,0,(r.drop (HT.sIx xs.length 0 lo)).take (HT.sIx xs.length xs.length hi - HT.sIx xs.length 0 lo),Heap.get?_push_size _ rfl⟩
noncomputable def ij:V→Bool
 | .non=>true
 | .bl _=>true
 | .int _=>true
 | .str _=>true
 | _=>false
noncomputable def eqV:V→V→Bool
 | .non,.non=>true
 | .bl a,.bl b=>a==b
 | .bl a,.int b=>(if a then 1 else 0)==b
 | .int a,.bl b=>a==(if b then 1 else 0)
 | .int a,.int b=>a==b
 | .str a,.str b=>a==b
 | _,_=>false
theorem Ku {A:Around} {s:Shared} {y x:V} {u v:Value} (ry:RelV y u) (rx:RelV x v) (fy:ij y=true) (fx:ij x=true):SeqAt.EqAt A s u v (eqV y x):=by
 cases y with
 | non=>
  cases ry
  cases x with
  | non=>cases rx;§SeqAt.EqAt.same _
  | bl b=>cases rx;§SeqAt.EqAt.none_bool b
  | int b=>£⟨t,rfl⟩:=rx;§SeqAt.EqAt.none_int b t
  | str b=>£⟨t,rfl⟩:=rx;§SeqAt.EqAt.none_str b t
  | _=>§absurd (show false=true from fx) Bool.false_ne_true
 | bl a=>
  cases ry
  cases x with
  | non=>cases rx;§SeqAt.EqAt.bool_none a
  | bl b=>cases rx;§SeqAt.EqAt.bool_bool a b
  | int b=>£⟨t,rfl⟩:=rx;§SeqAt.EqAt.bool_int a b t
  | str b=>£⟨t,rfl⟩:=rx;§SeqAt.EqAt.bool_str a b t
  | _=>§absurd (show false=true from fx) Bool.false_ne_true
 | int a=>
  £⟨t',rfl⟩:=ry;cases x with
  | non=>cases rx;§SeqAt.EqAt.int_none a t'
  | bl b=>cases rx;§SeqAt.EqAt.int_bool a t' b
  | int b=>£⟨t,rfl⟩:=rx;§SeqAt.EqAt.int_int a t' b t
  | str b=>£⟨t,rfl⟩:=rx;§SeqAt.EqAt.int_str a t' b t
  | _=>§absurd (show false=true from fx) Bool.false_ne_true
 | str a=>
  £⟨t',rfl⟩:=ry;cases x with
  | non=>cases rx;§SeqAt.EqAt.str_none a t'
  | bl b=>cases rx;§SeqAt.EqAt.str_bool a t' b
  | int b=>£⟨t,rfl⟩:=rx;§SeqAt.EqAt.str_int a t' b t
  | str b=>£⟨t,rfl⟩:=rx;§SeqAt.EqAt.str_str a t' b t
  | _=>§absurd (show false=true from fx) Bool.false_ne_true
 | _=>§absurd (show false=true from fy) Bool.false_ne_true
noncomputable def eqU (x:V) (u:Value):Bool:=match u with
 | .none=>eqV .non x
 | .bool b=>eqV (.bl b) x
 | .int i _=>eqV (.int i) x
 | .str z _=>eqV (.str z) x
 | _=>false
theorem Jl {x y:V} {u:Value} (r:RelV y u) (f:ij y=true):eqU x u=eqV y x:=by
 cases y with
 | non=>cases r;rfl
 | bl b=>cases r;rfl
 | int i=>£⟨t,rfl⟩:=r;rfl
 | str z=>£⟨t,rfl⟩:=r;rfl
 | _=>§absurd (show false=true from f) Bool.false_ne_true
theorem oa {x:V}:∀{xs:List V} {us:List Value},Vals xs us→xs.all ij=true→us.any (eqU x)=xs.any λy=>eqV y x
 | _,_,.nil,_=>rfl
 | y::xs,u::us,.cons r t,f=>by
  rw[List.all_cons,Bool.and_eq_true] at f;rw[List.any_cons,List.any_cons,Jl r f.1,oa t f.2]
theorem kb {A:Around} {s:Shared} {x:V} {v:Value} (rx:RelV x v) (fx:ij x=true):∀{xs:List V} {us:List Value},Vals xs us→xs.all ij=true→∀u∈us,SeqAt.EqAt A s u v (eqU x u)
 | _,_,.nil,_=>λu hu=>by cases hu
 | y::xs,u::us,.cons r t,f=>λu' hu=>by
  rw[List.all_cons,Bool.and_eq_true] at f;rcases List.mem_cons.mp hu with rfl | hu
  ·rw[Jl r f.1];§Ku r rx f.1 fx
  ·§kb rx fx t f.2 u' hu
noncomputable def inV (x:V) (xs:List V):Bool:=xs.any λy=>eqV y x
def rIn (K:PySem.W.Frag) (neg:Bool):R2:=λx y H Q=>∃p xs,y=.ref p∧(SqL K H p xs∨SqT K H p xs)∧ij x=true∧xs.all ij=true∧Q (.bl (if neg then !inV x xs else inV x xs)) H
theorem yq:OpR X (compareOp .In) (rIn X.K false):=by
 ¿pins s σ H x y v u Q I rx ry h;£⟨p,xs,rfl,hq,fx,fs,q⟩:=h;cases ry
 rcases hq with hq | hq
 ·£⟨its,r,pl,hz⟩:=I.list hq;¶SeqAt.in_listAt (eqU x) pl.isList (λw hw=>kb rx fx r fs w (by simpa using hw)) ⟨.bl _,H,I,rfl,?_⟩;rw[show its.toArray.any (eqU x)=its.any (eqU x) by simp,oa r fs];§q
 ·£⟨its,r,pl,hz⟩:=I.tuple hq;¶SeqAt.in_tupleAt (eqU x) pl (λw hw=>kb rx fx r fs w (by simpa using hw)) ⟨.bl _,H,I,rfl,?_⟩;rw[show its.toArray.any (eqU x)=its.any (eqU x) by simp,oa r fs];§q
theorem je:OpR X (compareOp .NotIn) (rIn X.K true):=by
 ¿pins s σ H x y v u Q I rx ry h;£⟨p,xs,rfl,hq,fx,fs,q⟩:=h;cases ry
 rcases hq with hq | hq
 ·£⟨its,r,pl,hz⟩:=I.list hq;¶SeqAt.notIn_listAt (eqU x) pl.isList (λw hw=>kb rx fx r fs w (by simpa using hw)) ⟨.bl _,H,I,rfl,?_⟩;rw[show its.toArray.any (eqU x)=its.any (eqU x) by simp,oa r fs];§q
 ·£⟨its,r,pl,hz⟩:=I.tuple hq;¶SeqAt.notIn_tupleAt (eqU x) pl (λw hw=>kb rx fx r fs w (by simpa using hw)) ⟨.bl _,H,I,rfl,?_⟩;rw[show its.toArray.any (eqU x)=its.any (eqU x) by simp,oa r fs];§q
theorem Ab:gw X (.builtin "len") (λxs H Q=>∃p ys,xs=[.ref p]∧(SqL X.K H p ys∨SqT X.K H p ys)∧Q (.int ys.length) H):=by
 ¿pins s σ H xs us Q I r h;£⟨p,ys,rfl,hq,q⟩:=h;£⟨u,rfl,rx⟩:=vals1 r;cases rx
 ¤hn:=ur;rcases hq with hq | hq
 ·£⟨its,r',pl,hz⟩:=I.list hq;¤hlen:=r'.length;§Calls.call_len_list pl.isList (by simp only[List.size_toArray] <;> ¡) ⟨.int ys.length,H,I.tok _,⟨s.toks+1,by rw[List.size_toArray,hlen]⟩,q⟩
 ·£⟨its,r',pl,hz⟩:=I.tuple hq;¤hlen:=r'.length;§len_tuple pl (by simp only[List.size_toArray] <;> ¡) ⟨.int ys.length,H,I.tok _,⟨s.toks+1,by rw[List.size_toArray,hlen]⟩,q⟩
theorem ow:gw X (.type "list") (λxs H Q=>∃p ys,xs=[.ref p]∧(SqL X.K H p ys∨SqT X.K H p ys)∧∀l,H l=none→Q (.ref l) (upd H l (.lst ys))):=by
 ¿pins s σ H xs us Q I r h;£⟨p,ys,rfl,hq,q⟩:=h;£⟨u,rfl,rx⟩:=vals1 r;cases rx
 ¤fin:∀(its:List Value),Vals ys its→ys.length≤sizeLine→∀(h':Heap) (c':Nat),(∀b o',s.heap.get? b=some o'→h'.get? b=some o')→
   h'.get? s.heap.objs.size=some { cls:=.type "list",dict:=none,data:=.seq its.toArray c',slots:=#[] }→EP X pins σ Q (.ref s.heap.objs.size) { s with heap:=h' }:=λits r' hz h' c' kp e=>
  ⟨.ref s.heap.objs.size,_,I.laid (t':=s.toks) kp (Nat.le_refl _) (show br X.prog X.w _ h' _ (.lst ys) from ⟨hz,its,c',r',e⟩),rfl,q _ (I.hok.fresh (Nat.le_refl _))⟩
 rcases hq with hq | hq
 ·£⟨its,r',pl,hz⟩:=I.list hq;¤hlen:=r'.length;£⟨o,ho,hc,n,hd⟩:=pl.isList;§call_list_seq p (.inl rfl) ho hc hd (λh' c' kp e=>fin its r' hz h' c' kp e) (by simp only[List.size_toArray] <;> ¡)
 ·£⟨its,r',pl,hz⟩:=I.tuple hq;¤hlen:=r'.length;£⟨o,ho,hc,n,hd⟩:=pl;§call_list_seq p (.inr rfl) ho hc hd (λh' c' kp e=>fin its r' hz h' c' kp e) (by simp only[List.size_toArray] <;> ¡)
theorem xj:gw X (.type "tuple") (λxs H Q=>∃p ys,xs=[.ref p]∧((SqL X.K H p ys∧∀l,H l=none→Q (.ref l) (upd H l (.tup ys)))∨(SqT X.K H p ys∧Q (.ref p) H))):=by
 ¿pins s σ H xs us Q I r h;£⟨p,ys,rfl,h⟩:=h;£⟨u,rfl,rx⟩:=vals1 r;cases rx
 rcases h with ⟨hq,q⟩ | ⟨hq,q⟩
 ·£⟨its,r',pl,hz⟩:=I.list hq;¤hlen:=r'.length;¶call_tuple_list pl.isList (λh' kp=>?_) (by simp only[List.size_toArray] <;> ¡);¤I1:Inv X pins σ H { s with heap:=h' }:=I.kept (t':=s.toks) kp;¤I2:Inv X pins σ (upd H h'.objs.size (.tup ys)) { s with heap:=h'.push { cls:=.type "tuple",data:=.seq its.toArray } }:=
   I1.laid (t':=s.toks) (λb o e=>Heap.get?_push_of_some _ e) (Nat.le_refl _) (show br X.prog X.w _ _ _ (.tup ys) from ⟨hz,its,r',⟨_,Heap.get?_push_size _ rfl,rfl,_,rfl,rfl⟩⟩)
  §⟨.ref h'.objs.size,_,I2,rfl,q _ (I1.hok.fresh (Nat.le_refl _))⟩
 ·£⟨its,r',pl,hz⟩:=I.tuple hq;§call_tuple_same pl ⟨.ref p,H,I,rfl,q⟩
def tyV (K:PySem.W.Frag) (T:String) (x:V) (H:Hp):Prop:=match x with
 | .str _=>T="str"
 | .int _=>T="int"
 | .ref p=>(T="list"∧∃xs,SqL K H p xs)∨(T="tuple"∧((∃o,K.lookup p=some o∧o.cls=.type "tuple"∧o.dict=none)∨∃xs,H p=some (.tup xs)))∨
   (T="dict"∧((∃kvs,H p=some (.dK kvs))∨∃kvs,H p=some (.dT kvs)))∨(T="set"∧∃S n,H p=some (.set S n))
 | _=>False
theorem Jj {pins:List (Addr×Obj)} {σ:St} {H:Hp} {s:Shared} {T:String} {x:V} {v:Value} (I:Inv X pins σ H s) (r:RelV x v) (ty:tyV X.K T x H):
  s.TypeIs v T∧∀a,v=.ref a→∃ob,s.heap.get? a=some ob∧ob.dict=none:=by
 cases x with
 | str z=>
  £⟨t,rfl⟩:=r;cases (show T="str" from ty)
  §⟨typeIs_str s z t,λ_ e=>nomatch e⟩
 | int i=>
  £⟨t,rfl⟩:=r;cases (show T="int" from ty)
  §⟨typeIs_int s i t,λ_ e=>nomatch e⟩
 | ref p=>
  cases r
  rcases ty with ⟨rfl,xs,hq⟩ | ⟨rfl,⟨o,hk,hc,hd⟩ | ⟨xs,hx⟩⟩ | ⟨rfl,hk⟩ | ⟨rfl,S,n,hk⟩
  ·£⟨its,_,pl,_⟩:=I.list hq;¶⟨pl.isList.typeIs,λa e=>?_⟩;cases e
   £⟨o,n,e,c,hd,_⟩:=pl;§⟨o,e,hd⟩
  ·¶⟨⟨o,I.kIn p o hk,hc⟩,λa e=>?_⟩;cases e
   §⟨o,I.kIn _ o hk,hd⟩
  ·£⟨_,its,_,o,h1,h2,n,_,h3⟩:=I.hok p _ hx;¶⟨⟨o,h1,h2⟩,λa e=>?_⟩;cases e
   §⟨o,h1,h3⟩
  ·¤z:∃o,s.heap.get? p=some o∧o.ExactDict:=by
    rcases hk with ⟨kvs,hk⟩ | ⟨kvs,hk⟩
    ·£⟨_,_,_,_,o,_,_,e,ex,_⟩:=I.hok p _ hk;§⟨o,e,ex⟩
    ·£⟨_,_,_,_,o,_,_,e,ex,_⟩:=I.hok p _ hk;§⟨o,e,ex⟩
   £⟨o,e,ex⟩:=z;¶⟨⟨o,e,ex.1⟩,λa e2=>?_⟩;cases e2
   §⟨o,e,ex.2.1⟩
  ·£⟨o,_,_,_,e,ex,_⟩:=I.hok p _ hk;¶⟨⟨o,e,ex.1⟩,λa e2=>?_⟩;cases e2
   §⟨o,e,ex.2.1⟩
 | _=>§False.elim ty
def tBM0 (K:PySem.W.Frag) (T:String) (r:V→List V→Hp→VK→Prop) (to:TE):TE:=λσ H Q=>to σ H λx H1=>tyV K T x H1∧r x [] H1 Q
def tBM (K:PySem.W.Frag) (T:String) (r:V→List V→Hp→VK→Prop) (to:TE) (t:TA):TE:=λσ H Q=>to σ H λx H1=>tyV K T x H1∧t σ H1 λxs H2=>r x xs H2 Q
variable {o e:Expr} {es:List Expr} {to:TE} {t:TA} {name:Str} {apos cpos:Pos} {T id:String} {r:V→List V→Hp→VK→Prop}
theorem pe_bm0 (pa:PlainAttrs T) (slot:Slot T name id) (hty:typeOf (.builtin id)=pure (.type "method_descriptor")) (hm:MtR X id r) (ho:PE X o to)
  (hbase:attributeBase o name X.env (eval o X.env)=eval o X.env:=by rfl) (hline:(apos.endLine==cpos.line)=true:=by rfl):PE X (.Call (.Attribute o name apos) [] [] cpos) (tBM0 X.K T r to):=by
 ¿pins s σ H Q I h;¶wpAny_Call_method0_late hbase hline (thn (ho pins s σ H _ I h) λv s1 ⟨x,H1,I1,r1,ty,q1⟩=>?_);£⟨h1,h2⟩:=Jj I1 r1 ty;§⟨T,id,pa,slot,hty,h1,h2,Calls.callWith_builtin rfl (PySem.evalArgs_none (hm pins s1 σ H1 x [] v [] Q I1 r1 .nil q1))⟩
theorem pe_bm (pa:PlainAttrs T) (slot:Slot T name id) (hty:typeOf (.builtin id)=pure (.type "method_descriptor")) (hm:MtR X id r) (ho:PE X o to) (ha:PA X (e::es) t)
  (hbase:attributeBase o name X.env (eval o X.env)=eval o X.env:=by rfl)
  (hfew:((backTo cpos (starEach (e::es) X.env)).all (λx=>!x.1)&&(backToKw cpos (keywordEach [] X.env)).all (λx=>x.1.isSome)
   &&decide ((e::es).length+([]:List Keyword).length+(if ([]:List Keyword).isEmpty then 0 else 1) < 30))=true:=by rfl)
  (hline:(apos.endLine==cpos.line)=true:=by rfl) (hs:starEach (e::es) X.env=(false,eval e X.env)::starEach es X.env:=by rfl) (hplain:(backTo cpos (starEach es X.env)).any (·.1)=false:=by rfl):
  PE X (.Call (.Attribute o name apos) (e::es) [] cpos) (tBM X.K T r to t):=by
 ¿pins s σ H Q I h;¶wpAny_Call_method_late hbase hfew hline rfl (thn (ho pins s σ H _ I h) λv s1 ⟨x,H1,I1,r1,ty,q1⟩=>?_);£⟨h1,h2⟩:=Jj I1 r1 ty;¶⟨T,id,pa,slot,hty,h1,h2,?_⟩;¤hA:=ha cpos pins s1 σ H1 _ I1 q1;rw[hs] at hA ⊢;¶Calls.callWith_builtin (by show (false||(backTo cpos (starEach es X.env)).any (·.1))=false;rw[hplain] <;> rfl) (Calls.evalArgs_plain ?_);§thn hA λus s2 ⟨vs,H2,I2,r2,q2⟩=>hm pins s2 σ H2 x vs v us Q I2 r1 r2 q2
end
end L2
namespace L2
open PySem PySem.Spec PyProof.Rows
def MtM (X:Cx) (id:String) (r:V→List V→Hp→VK→Prop):Prop:=
 ∀(pins:List (Addr×Obj)) (s:Shared) (σ:St) (H:Hp) (x:V) (xs:List V) (v:Value) (us:List Value) (Q:VK),Inv X pins σ H s→RelV x v→Vals xs us→r x xs H Q→
  wpAny (model X.prog X.w) X.A (call (.builtin id) (v::us)) (EP X pins σ Q) X.xe s
theorem Vals.one:∀{x:V} {us:List Value},Vals [x] us→∃u,us=[u]∧RelV x u
 | _,_,.cons r .nil=>⟨_,rfl,r⟩
theorem Vals.zero:∀{us:List Value},Vals [] us→us=[]
 | _,.nil=>rfl
theorem Vals.dropLast {xs:List V} {us:List Value} (h:Vals xs us):Vals xs.dropLast us.dropLast:=by
 induction h with
 | nil=>§.nil
 | cons r t ih=>
  cases t with
  | nil=>§.nil
  | cons q t'=>§.cons r ih
theorem Vals.rep {xs:List V} {us:List Value} (h:Vals xs us):∀k:Nat,Vals (List.replicate k xs).flatten (List.replicate k us).flatten
 | 0=>.nil
 | k+1=>by
  rw[List.replicate_succ,List.replicate_succ,List.flatten_cons,List.flatten_cons];§Vals.append h (Vals.rep h k)
theorem Eh {α:Type} (l:List α):l.eraseIdx (l.length - 1)=l.dropLast:=by
 induction l with
 | nil=>rfl
 | cons a r ih=>
  cases r with
  | nil=>rfl
  | cons b r=>
   ¤e:(a::b::r).length - 1=((b::r).length - 1)+1:=by
    ¤h1:(a::b::r).length=r.length+2:=rfl;¤h2:(b::r).length=r.length+1:=rfl;¡
   rw[e,List.eraseIdx_cons_succ,ih];all_goals rfl
theorem foldl_rep (its:List Value):∀(k:Nat) (acc:List Value),
  List.foldl (λx1 x2=>x1++x2) acc.toArray (List.replicate k its.toArray)=(acc++(List.replicate k its).flatten).toArray
 | 0,acc=>by simp
 | k+1,acc=>by
  ¤e:acc.toArray++its.toArray=(acc++its).toArray:=by simp
  ¤e2:(acc++its)++(List.replicate k its).flatten=acc++(List.replicate (k+1) its).flatten:=by
   rw[List.replicate_succ,List.flatten_cons,List.append_assoc]
  rw[←e2,←foldl_rep its k (acc++its),←e,List.replicate_succ,List.foldl_cons]
section
variable {X:Cx} {pins:List (Addr×Obj)} {σ:St} {H:Hp} {s:Shared} {l b:Addr} {xs ys zs:List V}
theorem Inv.lset {its its':List Value} {n:Nat} {f:Array Value→Array Value} {t':Nat} (I:Inv X pins σ H s) (hH:H l=some (.lst xs))
  (e:s.heap.get? l=some { cls:=.type "list",data:=.seq its.toArray n }) (hf:f its.toArray=its'.toArray) (hv:Vals ys its') (hz:ys.length≤sizeLine):
  Inv X pins σ (upd H l (.lst ys)) { s with heap:=s.heap.update l (Obj.mapSeq f),toks:=t' }:=by
 ¤q:=PySem.IsL.update e f;rw[hf] at q;¶I.write (x:=l) (e:=l) (by rw[hH];§trivial) (.inl rfl) (λb' u hb hu=>(Heap.get?_update_other s.heap (Obj.mapSeq f) (Ne.symm hb)).trans hu) ⟨_,q⟩ ?_;§⟨hz,its',_,hv,q⟩
theorem Inv.lnew {its:List Value} {t':Nat} (I:Inv X pins σ H s) (hv:Vals ys its) (hz:ys.length≤sizeLine):
  Inv X pins σ (upd H s.heap.objs.size (.lst ys)) { s with heap:=s.heap.push { cls:=.type "list",data:=.seq its.toArray },toks:=t' }:=
 I.laid (λ_ _ q=>Heap.get?_push_of_some _ q) (Nat.le_refl _) ⟨hz,its,0,hv,Heap.get?_push_size _ rfl⟩
theorem Inv.fresh (I:Inv X pins σ H s):H s.heap.objs.size=none:=I.hok.fresh (Nat.le_refl _)
theorem Inv.Dj (I:Inv X pins σ H s) (hH:H l=some (.lst xs)):xs.length≤sizeLine∧∃(its:List Value) (n:Nat),Vals xs its∧xs.length=its.length∧s.heap.get? l=some { cls:=.type "list",data:=.seq its.toArray n }:=by
 £⟨z,its,n,r,e⟩:=I.hok l _ hH;§⟨z,its,n,r,r.length,e⟩
theorem Az {n:Nat} (h:n≤sizeLine):Builtin.List.listTooLong n=false:=by
 unfold Builtin.List.listTooLong;§decide_eq_false ¥
end
section
variable {X:Cx}
def qa:V→List V→Hp→VK→Prop:=λx vs H Q=>∃l xs y,x=.ref l∧vs=[y]∧H l=some (.lst xs)∧xs.length < sizeLine∧Q .non (upd H l (.lst (xs++[y])))
theorem x8:MtM X "list.append" qa:=by
 ¿pins s σ H x vs v us Q I rx rv h;£⟨l,xs,y,rfl,rfl,hH,hz,q⟩:=h;cases rx
 £⟨u,rfl,ru⟩:=rv.one;£⟨z,its,n,r,hl,e⟩:=I.Dj hH;¶call_meets F.slot_list_append ⟨_,e,rfl⟩ F.entry_list_append (F.args_list_append_2 _ _) (PySem.list_append l its.toArray n u (by rw[List.size_toArray];¡)) ⟨e,?_⟩;¶⟨.non,_,I.lset (its':=its++[u]) hH e (by simp) (r.append (.cons ru .nil)) ?_,rfl,q⟩;rw[List.length_append,List.length_singleton];¡
def Oy:V→List V→Hp→VK→Prop:=λx vs H Q=>∃l b xs zs,x=.ref l∧vs=[.ref b]∧H l=some (.lst xs)∧H b=some (.lst zs)∧xs.length+zs.length≤sizeLine∧Q .non (upd H l (.lst (xs++zs)))
theorem yd:MtM X "list.extend" Oy:=by
 ¿pins s σ H x vs v us Q I rx rv h;£⟨l,b,xs,zs,rfl,rfl,hH,hB,hz,q⟩:=h;cases rx
 £⟨u,rfl,ru⟩:=rv.one;cases ru
 £⟨z,its,n,r,hl,e⟩:=I.Dj hH;£⟨z2,its2,n2,r2,hl2,e2⟩:=I.Dj hB;¤hsz:its.toArray.size+its2.toArray.size≤sizeLine:=by rw[List.size_toArray,List.size_toArray];¡
 ¤hlong:¬(!its.toArray.isEmpty&&Builtin.List.listTooLong (its.toArray.size+its2.toArray.size))=true:=by
  rw[Az hsz,Bool.and_false];§Bool.false_ne_true
 ¶call_meets F.slot_list_extend ⟨_,e,rfl⟩ F.entry_list_extend (F.args_list_extend_2 _ _)
  (AutoSeq1.list_extend_list_list_0 l its.toArray n b its2.toArray n2 hlong (by rw[List.size_toArray];¡) ¥) ⟨e,e2,?_⟩
 ¶⟨.non,_,I.lset (its':=its++its2) hH e (by simp) (r.append r2) ?_,rfl,q⟩;rw[List.length_append];¡
def rPop:V→List V→Hp→VK→Prop:=λx vs H Q=>∃l xs y,x=.ref l∧vs=[]∧H l=some (.lst xs)∧xs[xs.length - 1]?=some y∧Q y (upd H l (.lst xs.dropLast))
theorem za:MtM X "list.pop" rPop:=by
 ¿pins s σ H x vs v us Q I rx rv h;£⟨l,xs,y,rfl,rfl,hH,hy,q⟩:=h;cases rx
 ¤hus:=rv.zero;subst hus;£⟨z,its,n,r,hl,e⟩:=I.Dj hH;£⟨u,hu,ru⟩:=r.get hy;¤hy':its.toArray[its.toArray.size - 1]?=some u:=by
  show its.toArray[its.length - 1]?=some u
  rw[←Array.getElem?_toList,←hl];§hu
 ¶call_meets F.slot_list_pop ⟨_,e,rfl⟩ F.entry_list_pop (F.args_list_pop_1 _) (MeetsSeq.list_pop_last l its.toArray n u hy' (by rw[List.size_toArray];¡)) ⟨e,?_⟩;¶⟨y,_,I.lset (its':=its.dropLast) hH e ?_ r.dropLast ?_,ru,q⟩
 ·show its.toArray.eraseIdxIfInBounds (its.toArray.size - 1)=its.dropLast.toArray
  rw[List.size_toArray,List.eraseIdxIfInBounds_toArray,Eh]
 ·rw[List.length_dropLast];¡
def rCat:R2:=λx y H Q=>∃l b xs zs,x=.ref l∧y=.ref b∧H l=some (.lst xs)∧H b=some (.lst zs)∧xs.length+zs.length≤sizeLine∧∀p,H p=none→Q (.ref p) (upd H p (.lst (xs++zs)))
theorem mz:OpR X (binaryOp .Add) rCat:=by
 ¿pins s σ H x y v u Q I rx ry h;£⟨l,b,xs,zs,rfl,rfl,hH,hB,hz,q⟩:=h;cases rx
 cases ry
 £⟨z,its,n,r,hl,e⟩:=I.Dj hH;£⟨z2,its2,n2,r2,hl2,e2⟩:=I.Dj hB;¶PySem.P.add_list e e2 ?_ (by rw[List.size_toArray,List.size_toArray];¡);¤ea:its.toArray++its2.toArray=(its++its2).toArray:=by simp
 rw[ea];§⟨.ref _,_,I.lnew (t':=s.toks) (r.append r2) (by rw[List.length_append];¡),rfl,q _ I.fresh⟩
def rRep:R2:=λx y H Q=>∃l k xs,x=.ref l∧y=.int k∧H l=some (.lst xs)∧-(2 ^ 63)≤k∧k < 2 ^ 63∧xs.length*k.toNat≤sizeLine∧
 ∀p,H p=none→Q (.ref p) (upd H p (.lst (List.replicate k.toNat xs).flatten))
theorem len_rep {α:Type} (xs:List α) (k:Nat):(List.replicate k xs).flatten.length=k*xs.length:=by
 induction k with
 | zero=>simp
 | succ k ih=>rw[List.replicate_succ,List.flatten_cons,List.length_append,ih,Nat.succ_mul,Nat.add_comm]
theorem op_rep:OpR X (binaryOp .Mult) rRep:=by
 ¿pins s σ H x y v u Q I rx ry h;£⟨l,k,xs,rfl,rfl,hH,h1,h2,hz,q⟩:=h;cases rx
 £⟨t,rfl⟩:=ry;£⟨z,its,n,r,hl,e⟩:=I.Dj hH;¤hlen:its.toArray.size*k.toNat≤sizeLine:=by rw[List.size_toArray,←hl];§hz
 ¤hcap:¬its.toArray.size*k.toNat > (2 ^ 63 - 1) / 8:=by
  have:(sizeLine:Nat)≤(2 ^ 63 - 1) / 8:=by decide
  ¡
 ¤hfit:¬(!Builtin.List.listFitsIndex k)=true:=by
  rw[fitsIndex_both h1 h2];§Bool.false_ne_true
 ¤hlong:¬Builtin.List.listTooLong (its.toArray.size*k.toNat)=true:=by
  rw[Az hlen];§Bool.false_ne_true
 ¤hnew:List.foldl (λx1 x2=>x1++x2) #[] (List.replicate (if its.toArray.isEmpty=true then 0 else k.toNat) its.toArray)=(List.replicate k.toNat its).flatten.toArray:=by
  ¤f0:∀m:Nat,List.foldl (λx1 x2=>x1++x2) #[] (List.replicate m its.toArray)=(List.replicate m its).flatten.toArray:=λm=>by
   have:=foldl_rep its m [];rw[List.nil_append] at this;§this
  rw[f0];cases its with
  | nil=>simp
  | cons a r'=>rw[if_neg (by simp)]
 ¶wpAny_binaryOp_repeat_ref (T:="list") (U:="int") (by decide) ⟨_,e,rfl⟩ (λs'=>typeIs_int s' k t) noFill_list_mul F.fills_int_mul F.slot_int_rmul repeat_list F.slot_int_index.lookup
  (call_meets F.slot_int_rmul (typeIs_int s k t) F.entry_int_rmul (F.args_int_rmul_2 _ _) (int___rmul___int_list k t l its.toArray n)
   ⟨e,rfl,⟨_,e,rfl⟩,call_meets F.slot_list_mul ⟨_,e,rfl⟩ F.entry_list_mul (F.args_list_mul_2 _ _) (AutoListH.list___mul___list_int_3 l its.toArray n k t hfit hcap hlong) ⟨e,?_⟩⟩)
 rw[hnew];§⟨.ref _,_,I.lnew (t':=s.toks) (r.rep k.toNat) (by rw[len_rep,Nat.mul_comm];§hz),rfl,q _ I.fresh⟩
end
section
variable {prog:Program} {w:World} {A:Around} {E:Value→Shared→Prop} {s:Shared}
set_option maxRecDepth 100000 in
end
section
variable {X:Cx}
end
end L2
namespace Att
open PySem PySem.W PySem.Calls PyProof.Rows
theorem rm {P:Params} {h:Heap}:∀(ns:List Int) (vs:List Value),WellAll P h vs (ns.map WData.int)→IntsAre vs ns:=by
 ¿ns;induction ns with
 | nil=>
  ¿vs w;rw[List.map_nil] at w;cases w
  §.nil
 | cons n ns ih=>
  ¿vs w;rw[List.map_cons] at w;cases w with
  | cons a b=>
   cases a
   §.cons _ _ (ih _ b)
theorem He {l:OpenLaw} {n:Nat} (hn:l.most=some n) {P:Params} {h:Heap} {args:List WData} {vals:List Value}
  (hpre:l.row.toRowW.claim.pre args=true) (hwl:WellAll P h vals args):
  ∃a vs ns,vals=[Value.ref a]∧args=[WData.list (ns.map WData.int)]∧h.get? a=some { cls:=.type "list",data:=.seq vs.toArray }∧IntsAre vs ns∧ns.length≤n:=by
 ¤hsh:WShape.hasAll [] args [.list .int]=true:=(pre_splitW hpre).1;¤hc:l.pre.holds [] { args:=args }=true:=(pre_splitW hpre).2;£⟨d,r,rfl,h1,h2⟩:=hasAllW_cons hsh;£rfl:=hasAllW_nil h2;£⟨xs,rfl,h3⟩:=hasW_list h1;£⟨ns,rfl⟩:=items_int h3;¤hlen:ns.length≤n:=by
  unfold OpenLaw.pre at hc;¤h4:(WTm.not (.lt (.lit (.int (n:Int))) (.len (.arg 0)))).holds [] { args:=[.list (ns.map .int)] }=true:=by
   ¤h4:=(holds_andW hc).1;rw[hn] at h4;§h4
  ¤h5:=condW_of h4 (w_not (w_lt w_lit (w_len_list (w_arg rfl))));rw[List.length_map] at h5;¶Nat.le_of_not_lt λq=>?_;¤q':(n:Int) < ((ns.length:Nat):Int):=by ¡
  first
   | (rw[decide_eq_true q'] at h5;§absurd h5 (by decide))
   | (simp at h5;¡)
 cases hwl with
 | cons w1 w2=>
  cases w2
  cases w1 with
  | list ho hall=>§⟨_,_,ns,rfl,rfl,ho,rm ns _ hall,hlen⟩
theorem Im (l:OpenLaw) (args:List WData):l.row.toRowW.claim.post args (.bool true) args=true:=
 postW_of (r:=l.row.toRowW) (X:=(true==true))
  (show WShape.has [] (.bool true) .bool=true by first | rfl | decide | simp[WShape.has,WShape.arms,WShape.armsAll])
  (show (WTm.eq .res (.lit (.bool true))).value [] { args:=args,res:=some (.bool true),after:=args }=some (.bool (true==true)) from w_eq_bool (w_res rfl) w_lit) rfl
theorem By {l:OpenLaw} {n:Nat} {q:Program} {loose:List Str} {XP:(Str→Option Value)→Heap→Prop} {YP:World→Heap→Prop} {d:DefRec}
  (hn:l.most=some n) (hdf:d.params.defaults=[])
  (call:∀(w:World) (s₀ s₁:Shared) (mg mb:Str→Option Value) (fa:Addr) (o:Obj) (pm cd doc:Value) (a:Addr) (vs:List Value) (ns:List Int),
   Ground q loose [] XP w s₀ mg mb s₁.heap→YP w s₁.heap→
   s₁.heap.get? fa=some o→o.data=.func (docDef d.name d.params d.body d.scope pm cd doc)→s₁.heap.CodeRec cd d.name→mg d.name=some (.ref fa)→
   s₁.heap.get? a=some { cls:=.type "list",data:=.seq vs.toArray }→IntsAre vs ns→ns.length≤n→s₁.gens=#[]→
   codeAny (model l.prog w) callerA (.call (.ref fa) ⟨[.ref a],[]⟩) (λr s'=>r=.ok (.ret (.bool true))∧OldK s₁.heap s'.heap∧s'.os=s₁.os∧AllBare s'.gens) s₁):
  WalkO q loose XP YP l.row.toRowW d [] (λf vs=>PySem.call f vs):=by
 ¿w s₀ s₁ mg mb G Y fa o pm cd doc dV kV ho hd hcd hD hmg hg args vals as hpre hlay hrd hwl hlo;£rfl:dV=.none:=Dflts.none hD hdf;£rfl:kV=.none:=Dflts.noKw hD;£⟨a,vs,ns,rfl,rfl,hobj,hints,hlen⟩:=He hn hpre hwl;¶enter_call (codeAny_mono (call w s₀ s₁ mg mb fa o pm cd doc a vs ns G Y ho (fd_plain hd) hcd hmg hobj hints hlen hg) λr s' hq=>?_);£⟨rfl,h2,h3,h4⟩:=hq;§⟨.inl ⟨.bool true,.bool true,[],rfl,λ_=>rfl,.bool true,Im l _,λ_=>⟨List.Pairwise.nil,λ_ hm=>(nomatch hm)⟩⟩,h2,h3,h4⟩
section
variable {prog:Program} {w:World} {A:Around} {E:Value→Shared→Prop} {s:Shared} {K:Frag}
end
end Att
namespace L2
open PySem PySem.Spec PyProof.Rows
theorem yc:∀{vs:List Value} {ns:List Int},IntsAre vs ns→Vals (ns.map V.int) vs
 | _,_,.nil=>.nil
 | _,_,.cons n t h=>.cons ⟨t,rfl⟩ (yc h)
def Only (H:Hp):Prop:=∀b,H b=none∨∃o xs,H b=some (.frz o (.lst xs))
theorem Lz {P:Program} {w:World} {K:PySem.W.Frag} {mg mb:Str→Option Value} {CX:CXT} {k:Nat} {fa a:Addr} {fd:FuncData} {x:Str} {sp:Sp} {s₁:Shared} {vs:List Value} {ns:List Int}
  (KX:K.In s₁.heap) (hns:s₁.heap.Ns mainGlobals mg) (hb:s₁.heap.Ns builtinsNs mb) (hbb:∀x:Str,x≠"__name__"→mb x=bootBuiltins x) (hlim:s₁.heap.NoLimit) (hg:s₁.gens=#[])
  (ha:s₁.heap.get? a=some { cls:=.type "list",data:=.seq vs.toArray }) (hi:IntsAre vs ns) (hl:ns.length≤sizeLine) (hr:iy k callerA)
  (F:∀base:Heap,K.In base→base.Ns mainGlobals mg→qc P w K mg base CX k fa fd [x] sp) (hbind:∀(s:Shared) (u:Value),BindsTo s fd ⟨[u],[]⟩ [(x,u)])
  (hsp:∀H:Hp,Only H→SqL K H a (ns.map V.int)→sp [.ref a] H (λv _=>v=.bl true) λ_ _ _=>False)
  (hCX:∀H e s',CX [] H s₁ (λ_ _ _=>False) e s'→False):
  codeAny (model P w) callerA (.call (.ref fa) ⟨[.ref a],[]⟩) (λr s'=>r=.ok (.ret (.bool true))∧OldK s₁.heap s'.heap∧s'.os=s₁.os∧AllBare s'.gens) s₁:=by
 ¤rv:=yc hi;¤lenV:=hi.length;¤core:∀H:Hp,Only H→SqL K H a (ns.map V.int)→HOk P w H s₁.heap→(∀b,H b≠none→b=a)→(H a≠none→K.lookup a=none)→
   codeAny (model P w) callerA (.call (.ref fa) ⟨[.ref a],[]⟩) (λr s'=>r=.ok (.ret (.bool true))∧OldK s₁.heap s'.heap∧s'.os=s₁.os∧AllBare s'.gens) s₁:=by
  ¿H hO hS hok hA hK;¤base_of:∀{b:Addr} {o:Obj},s₁.heap.get? b=some o→H b=none→(zi s₁.heap H).get? b=some o:=λe n=>Mp e n;¤noA:∀{b:Addr} {o:Obj} {es:Array DictEntry} {ep:Nat},s₁.heap.get? b=some o→o.data=.dict es ep→H b=none:=λ{b o es ep} e d=>by
   cases q:H b with
   | none=>rfl
   | some u=>
    ¤e':b=a:=hA b (by rw[q];simp);subst e';rw[ha] at e;cases e;¤d':Data.seq vs.toArray _=Data.dict es ep:=d;cases d'
  ¤nsK:∀{b:Addr} {m:Str→Option Value},s₁.heap.Ns b m→(zi s₁.heap H).Ns b m:=λ{b m} ⟨o,es,ep,e,d,r⟩=>⟨o,es,ep,base_of e (noA e d),d,r⟩;¤hKb:K.In (zi s₁.heap H):=λb o e=>base_of (KX b o e) (by
   cases q:H b with
   | none=>rfl
   | some u=>
    ¤e':b=a:=hA b (by rw[q];simp);subst e';rw[hK (by rw[q];simp)] at e;cases e)
  ¤hM:Mod K mg (zi s₁.heap H):=⟨hKb,nsK hns,⟨mb,nsK hb,hbb⟩,let ⟨mc,h1,h2⟩:=hlim;⟨mc,nsK h1,h2⟩⟩;¤e0:Env0 P w K mg (zi s₁.heap H) callerA [] s₁ H:=⟨rfl,hM,λb o e=>P6 e,Nat.le_of_eq (Ho _ _),trivial,λb hb=>absurd (show b∈([]:List Addr) from hb) (by simp),hok,.of_eq hg⟩;¶codeAny_mono ((F _ hKb (nsK hns)).run callerA [] s₁ H ⟨[.ref a],[]⟩ [.ref a] [.ref a] _ _ hr e0 (hbind s₁ (.ref a)) (.cons rfl .nil) (hsp H hO hS)) λr s' h=>?_;cases r with
  | error e=>§(hCX H e s' h).elim
  | ok fl=>
   cases fl with
   | next=>§False.elim h
   | brk=>§False.elim h
   | cont=>§False.elim h
   | ret u=>
    £⟨v,H',os,bare,un,hok',r',q⟩:=h;¤q':v=.bl true:=q;subst q';£rfl:u=Value.bool true:=r';¶⟨rfl,OldK.of_keep λb o e=>?_,os,bare⟩;cases q:H b with
    | none=>§un.keep b o e q (by ¿z;§absurd (show b∈([]:List Addr) from z) (by simp)) (by simp)
    | some u=>
     rcases hO b with z | ⟨ob,xs,z⟩
     ·rw[q] at z;cases z
     ·¤z2:=un.frzs b ob _ z;£⟨e1,_⟩:=hok b _ z;£⟨e2,_⟩:=hok' b _ z2;rw[e] at e1;cases e1;§e2
 cases hk:K.lookup a with
 | some o=>
  ¤e:=KX a o hk;rw[ha] at e;cases e
  ¶core (λ_=>none) (λ_=>.inl rfl) (.inr ⟨_,vs.toArray,_,hk,rfl,rfl,rfl,by rw[List.size_toArray,lenV];§hl,by simpa using rv⟩) (λb u z=>by ¤z':(none:Option HO)=some u:=z;cases z') (λb z=>absurd rfl z) λz=>absurd rfl z
 | none=>
  ¶core (λb=>if b=a then some (.frz { cls:=.type "list",data:=.seq vs.toArray } (.lst (ns.map V.int))) else none) (λb=>?_) (.inl (.inr ⟨{ cls:=.type "list",data:=.seq vs.toArray },if_pos rfl⟩)) (λb u z=>?_) (λb z=>?_) λ_=>hk
  ·¦hb:b=a
   ·§.inr ⟨_,_,if_pos hb⟩
   ·§.inl (if_neg hb)
  ·¦hb:b=a
   ·¤z':=(if_pos hb).symm.trans z;cases z'
    subst hb;§⟨ha,by rw[List.length_map];§hl,vs,_,rv,ha⟩
   ·¤z':=(if_neg hb).symm.trans z;cases z'
  ·¦hb:b=a
   ·§hb
   ·§absurd (if_neg hb) z
end L2
namespace L2
open PySem PySem.Spec PyProof.Rows
noncomputable abbrev KOf {K:PySem.W.Frag} {h:Heap} (_:K.In h):PySem.W.Frag:=K
theorem Oh {l:PySem.W.OpenLaw} {n k:Nat} {q:Program} {loose:List Str} {XP:(Str→Option Value)→Heap→Prop} {YP:World→Heap→Prop} {d:DefRec} {K:Params→PySem.W.Frag} {CX:World→CXT} {sp:World→Sp} {x:Str}
  (hn:l.most=some n) (hn2:n≤sizeLine) (hdf:d.params.defaults=[]) (hr:iy k callerA)
  (hY:∀(w:World) (h:Heap),YP w h→(K w.params).In h)
  (F:∀(w:World) (mg:Str→Option Value) (fa:Addr) (h:Heap),(K w.params).In h→h.Ns mainGlobals mg→mg d.name=some (.ref fa)→
   ∃fd:FuncData,(∀(s:Shared) (u:Value),BindsTo s fd ⟨[u],[]⟩ [(x,u)])∧
    ∀base:Heap,(K w.params).In base→base.Ns mainGlobals mg→qc l.prog w (K w.params) mg base (CX w) k fa fd [x] (sp w))
  (hsp:∀(w:World) (H:Hp) (a:Addr) (ns:List Int),ns.length≤n→Only H→SqL (K w.params) H a (ns.map V.int)→sp w [.ref a] H (λv _=>v=.bl true) λ_ _ _=>False)
  (hCX:∀(w:World) (H:Hp) (s:Shared) (e:Value) (s':Shared),CX w [] H s (λ_ _ _=>False) e s'→False):
  PySem.W.WalkO q loose XP YP l.row.toRowW d [] (λf vs=>PySem.call f vs):=by
 ¶Att.By hn hdf λw s₀ s₁ mg mb fa o pm cd doc a vs ns G Y ho hd hcd hmg hobj hints hlen hg=>?_;¤KX:=hY w _ Y;£⟨fd,hb,hF⟩:=F w mg fa _ KX G.T.g hmg;§Lz KX G.T.g G.T.b G.T.builtins G.T.nolimit hg hobj hints (Nat.le_trans hlen hn2) hr hF hb (λH hO hS=>hsp w H a ns hlen hO hS) λH e s'=>hCX w H s₁ e s'
end L2
namespace L2
open PySem PySem.Spec PyProof.Rows
noncomputable def ay (s:Stmt):Arguments:=match s with
 | .FunctionDef _ a _ _ _ _ _ _ _ _=>a
 | _=>{ posonlyargs:=[],args:=[],vararg:=none,kwonlyargs:=[],kw_defaults:=[],kwarg:=none,defaults:=[] }
noncomputable def aw (s:Stmt):List Stmt:=match s with
 | .FunctionDef _ _ b _ _ _ _ _ _ _=>b
 | _=>[]
noncomputable def ah (s:Stmt):Scope:=match s with
 | .FunctionDef _ _ _ _ _ _ sc _ _ _=>sc
 | _=>{ kind:=.function,names:=[],isGenerator:=false,isCoroutine:=false }
noncomputable abbrev CX0:CXT:=λ_ _ _ _ _ _=>False
abbrev E0:XK:=λ_ _ _=>False
theorem pass0 {X:Cx}:Passes CX0 X E0:=λ_ _ _ _ _ _ _ h=>h.elim
structure Fun (K:PySem.W.Frag) (x qual:Str) (st:Stmt) (f:Addr) (fd:FuncData):Prop where
 ex:∃(oc:Value) (od:Option Addr) (kV doc pm:Value) (an:Option Addr) (cdv ct:Value) (osl:Array (Option Value)),
  fd=PySem.W.fnOf x qual (ay st) (aw st) (ah st) .none kV doc pm an cdv ct∧K.lookup f=some ⟨oc,od,.func fd,osl⟩∧PySem.W.codeIn K cdv qual=true
 kp:PySem.W.keepIn K (.ref f)=true
section
variable {P:Program} {w:World} {K:PySem.W.Frag} {mg:Str→Option Value} {base:Heap}
theorem Fun.ok {x qual:Str} {st:Stmt} {f:Addr} {fd:FuncData} {N ps:List Str} {k:Nat} {sp:Sp} (F:Fun K x qual st f fd) (S:az N ps (ah st)) (len:∀vs H Q E,sp vs H Q E→vs.length=ps.length)
  (hbody:∀(cdv:Value) (A:Around) (outer:List Env) (s:Shared) (H:Hp) (vs:List V) (Q:VK) (E:XK),iy k (A.deeper (envOfC qual (ah st) s.heap.objs.size f cdv))→sp vs H Q E→
   ∃t,PSs (sd CX0 P w K mg base N qual (ah st) f cdv A outer s H E).nox (aw st) t∧t { nx:=λ_ H'=>Q .non H',rt:=Q } (start N vs) H):qc P w K mg base CX0 (k+1) f fd ps sp:=by
 £⟨oc,od,kV,doc,pm,an,cdv,ct,osl,rfl,lk,hcd⟩:=F.ex;¶fn_of lk hcd S len λA outer s H vs Q E hr hsp=>?_;£⟨t,h,q⟩:=hbody cdv A outer s H vs Q E hr hsp;§⟨t,h.nox,q⟩
theorem Fun.binds {x qual:Str} {st:Stmt} {f:Addr} {fd:FuncData} {ps:List Str} (F:Fun K x qual st f fd)
  (h:∀(kV doc pm:Value) (an:Option Addr) (cdv ct:Value) (us:List Value),us.length=ps.length→bindArgs (PySem.W.fnOf x qual (ay st) (aw st) (ah st) .none kV doc pm an cdv ct) ⟨us,[]⟩=pure (ps.zip us)):Binds K fd ps []:=by
 £⟨oc,od,kV,doc,pm,an,cdv,ct,osl,rfl,lk,hcd⟩:=F.ex;§.all (h kV doc pm an cdv ct)
theorem bq {x qual:Str} {st:Stmt} {f:Addr} {oc:Value} {od an:Option Addr} {osl:Array (Option Value)} {kV doc pm cdv ct:Value} (l:K.lookup f=some ⟨oc,od,.func (PySem.W.fnOf x qual (ay st) (aw st) (ah st) .none kV doc pm an cdv ct),osl⟩)
  (c:PySem.W.codeIn K cdv qual=true) (k:PySem.W.keepIn K (.ref f)=true):Fun K x qual st f (PySem.W.fnOf x qual (ay st) (aw st) (ah st) .none kV doc pm an cdv ct):=⟨⟨oc,od,kV,doc,pm,an,cdv,ct,osl,rfl,l,c⟩,k⟩
end
theorem b9 {A:Around} {k:Nat} (hr:iy k A):A.units+1 < cLine:=Nat.lt_of_le_of_lt (Nat.add_le_add_left (by decide:1≤64) _) hr.units
section
variable {X:Cx}
theorem pv (i:Nat) {x:Str} {pos:Pos} (hN:X.N[i]?=some x:=by rfl) (hv:Vis X.env.scope x:=by first | §Or.inl rfl | §Or.inr (Or.inl rfl) | §Or.inr (Or.inr rfl)) (hd:(x==("__debug__":Str))=false:=by decide)
  (hcd:(x==("__classdict__":Str))=false:=by decide):PE X (.Name x pos) (tVar i):=pe_var hN hv hd hcd
end
theorem iteF {A B:Prop} (h:B):if false=true then A else B:=by
 rw[if_neg Bool.false_ne_true];§h
theorem iteT {A B:Prop} (h:A):if true=true then A else B:=by
 rw[if_pos rfl];§h
theorem bu {c A B:Prop} [Decidable c] (h1:c→A) (h2:¬c→B):if c then A else B:=by
 ¦h:c
 ·rw[if_pos h];§h1 h
 ·rw[if_neg h];§h2 h
def ak (H H':Hp):Prop:=∀b o,H b=some o→H' b=some o
theorem ak.refl (H:Hp):ak H H:=λ_ _ h=>h
theorem ak.trans {H H1 H2:Hp} (a:ak H H1) (b:ak H1 H2):ak H H2:=λc o h=>b c o (a c o h)
theorem ak.free {H H':Hp} (e:ak H H') {l:Addr} (h:H' l=Option.none):H l=Option.none:=by
 cases q:H l with
 | none=>rfl
 | some o=>
  rw[e l o q] at h;cases h
theorem ak.seq {K:PySem.W.Frag} {H H':Hp} {a:Addr} {xs:List V} (e:ak H H') (h:SqL K H a xs):SqL K H' a xs:=by
 rcases h with (h | ⟨o,h⟩) | h
 ·§.inl (.inl (e _ _ h))
 ·§.inl (.inr ⟨o,e _ _ h⟩)
 ·§.inr h
end L2
namespace L2
open PySem PySem.Spec PyProof.Rows
section
variable {κ:Type} [DecidableEq κ]
noncomputable def dh (kvs:List (κ×V)) (k:κ):Option V:=(kvs.find? λkv=>decide (kv.1=k)).map (·.2)
noncomputable def putK (kvs:List (κ×V)) (k:κ) (v:V):List (κ×V):=
 if (kvs.any λkv=>decide (kv.1=k))=true then kvs.map (λkv=>if kv.1=k then (kv.1,v) else kv) else kvs++[(k,v)]
theorem bx {p:κ×V} {r:List (κ×V)} {k:κ} (e:p.1=k):dh (p::r) k=some p.2:=by simp[dh,List.find?_cons,e]
theorem bz {p:κ×V} {r:List (κ×V)} {k:κ} (e:¬p.1=k):dh (p::r) k=dh r k:=by simp[dh,List.find?_cons,e]
theorem fo (k:κ):∀kvs:List (κ×V),(kvs.any λkv=>decide (kv.1=k))=(dh kvs k).isSome
 | []=>rfl
 | p::r=>by
  rw[List.any_cons];¦e:p.1=k
  ·simp only[bx e,decide_eq_true e,Bool.true_or,Option.isSome_some]
  ·rw[bz e,decide_eq_false e,Bool.false_or];§fo k r
theorem Bh (k j:κ) (y:V):∀kvs:List (κ×V),dh (kvs.map λkv=>if kv.1=k then (kv.1,y) else kv) j=(dh kvs j).map λx=>if j=k then y else x
 | []=>rfl
 | p::r=>by
  ¤ih:=Bh k j y r;rw[List.map_cons];¦h:p.1=k
  ·rw[if_pos h];¦e:p.1=j
   ·rw[bx (p:=(p.1,y)) e,bx e,Option.map_some,if_pos (e.symm.trans h)]
   ·rw[bz (p:=(p.1,y)) e,bz e,ih]
  ·rw[if_neg h];¦e:p.1=j
   ·rw[bx (p:=p) e,bx e,Option.map_some,if_neg (λz=>h (e.trans z))]
   ·rw[bz (p:=p) e,bz e,ih]
theorem yk (k j:κ) (y:V):∀kvs:List (κ×V),dh kvs k=none→dh (kvs++[(k,y)]) j=if j=k then some y else dh kvs j
 | [],_=>by
  ¦e:k=j
  ·rw[if_pos e.symm];§bx (p:=(k,y)) e
  ·rw[if_neg (λz=>e z.symm)];§bz (p:=(k,y)) e
 | p::r,hn=>by
  rw[List.cons_append];¤hk:¬p.1=k:=λz=>by rw[bx z] at hn;cases hn
  rw[bz hk] at hn;¤ih:=yk k j y r hn;¦e:p.1=j
  ·rw[bx e,bx e,if_neg (λz=>hk (e.trans z))]
  ·rw[bz e,bz e,ih]
theorem Cr (kvs:List (κ×V)) (k j:κ) (y:V):dh (putK kvs k y) j=if j=k then some y else dh kvs j:=by
 unfold putK;¦a:(kvs.any λkv=>decide (kv.1=k))=true
 ·rw[if_pos a,Bh];rw[fo] at a;¦e:j=k
  ·£⟨x,hx⟩:=Option.isSome_iff_exists.mp a;rw[if_pos e,e,hx,Option.map_some,if_pos rfl]
  ·rw[if_neg e];cases dh kvs j with
   | none=>rfl
   | some x=>rw[Option.map_some,if_neg e]
 ·rw[if_neg a];¶yk k j y kvs ?_;rw[fo] at a;cases q:dh kvs k with
  | none=>rfl
  | some x=>rw[q] at a;§(a rfl).elim
theorem gj (kvs:List (κ×V)) (k:κ) (v:V):(putK kvs k v).length≤kvs.length+1:=by
 unfold putK;split
 ·rw[List.length_map];¡
 ·rw[List.length_append,List.length_cons,List.length_nil];¡
theorem Cm {kvs:List (κ×V)} {k:κ} (v:V) (h:dh kvs k=none):putK kvs k v=kvs++[(k,v)]:=by
 unfold putK;rw[fo,h];§if_neg (by decide)
theorem m5.i7 {o:Option V} {u:Option Value} (r:m5 o u):o.isSome=u.isSome:=by
 cases o with
 | none=>cases u with
  | none=>rfl
  | some _=>§(show False from r).elim
 | some _=>cases u with
  | none=>§(show False from r).elim
  | some _=>rfl
theorem m5.getD {o:Option V} {u:Option Value} {d:V} {d':Value} (r:m5 o u) (rd:RelV d d'):RelV (o.getD d) (u.getD d'):=by
 cases o with
 | none=>cases u with
  | none=>§rd
  | some _=>§(show False from r).elim
 | some _=>cases u with
  | none=>§(show False from r).elim
  | some _=>§r
theorem KV.val {kvs:List (κ×V)} {vs:List (κ×Value)} (r:KV kvs vs) (k:κ):m5 (dh kvs k) (valueAt vs k):=by
 unfold KV at r;induction r with
 | nil=>§True.intro
 | @cons p q ps qs h t ih=>
  £⟨h1,h2⟩:=h;¦e:p.1=k
  ·¤e':q.1=k:=h1.symm.trans e;¤b:valueAt (q::qs) k=some q.2:=by simp[valueAt,List.find?_cons,e']
   rw[bx e,b];§h2
  ·¤e':¬q.1=k:=λz=>e (h1.trans z);¤b:valueAt (q::qs) k=valueAt qs k:=by simp[valueAt,List.find?_cons,e']
   rw[bz e,b];§ih
theorem KV.any {kvs:List (κ×V)} {vs:List (κ×Value)} (r:KV kvs vs) (k:κ):(kvs.any λkv=>decide (kv.1=k))=vs.any λkv=>decide (kv.1=k):=by
 unfold KV at r;induction r with
 | nil=>rfl
 | cons h t ih=>rw[List.any_cons,List.any_cons,ih,h.1]
theorem KV.repl {kvs:List (κ×V)} {vs:List (κ×Value)} (r:KV kvs vs) (k:κ) {y:V} {u:Value} (ry:RelV y u):
  KV (kvs.map λkv=>if kv.1=k then (kv.1,y) else kv) (vs.map λkv=>if kv.1=k then (kv.1,u) else kv):=by
 unfold KV at r ⊢;induction r with
 | nil=>§.nil
 | @cons p q ps qs h t ih=>
  rw[List.map_cons,List.map_cons];¶.cons ?_ ih;£⟨h1,h2⟩:=h;¦e:p.1=k
  ·rw[if_pos e,if_pos (h1.symm.trans e)];§⟨h1,ry⟩
  ·rw[if_neg e,if_neg (λz=>e (h1.trans z))];§⟨h1,h2⟩
theorem KV.put {kvs:List (κ×V)} {vs:List (κ×Value)} (r:KV kvs vs) (k:κ) {y:V} {u:Value} (ry:RelV y u):KV (putK kvs k y) (stored vs k u):=by
 unfold putK stored;rw[r.any k];¦e:(vs.any λkv=>decide (kv.1=k))=true
 ·rw[if_pos e,if_pos e];§r.repl k ry
 ·rw[if_neg e,if_neg e];§Paired.snoc r ⟨rfl,ry⟩
theorem KV.length {kvs:List (κ×V)} {vs:List (κ×Value)} (r:KV kvs vs):kvs.length=vs.length:=Paired.length r
end
theorem rg {P:Program} {w:World} {k:Key} {u:Value} (r:RelV (kV k) u):(bj P w).is k u=true:=by
 cases k with
 | inl i=>£⟨t,e⟩:=(show ∃t,u=Value.int i t from r);subst e;§Aw P w i t
 | inr x=>£⟨t,e⟩:=(show ∃t,u=Value.str x t from r);subst e;§kc P w x t
theorem yn {P:Program} {w:World}:∀{ks:List Key} {us:List Value},Vals (ks.map kV) us→ItemsAre (bj P w) ks us
 | [],_,r=>by rw[List.map_nil] at r;cases r;§.nil
 | k::ks,_,r=>by
  rw[List.map_cons] at r;cases r with
  | cons h t=>§.cons (rg h) (yn t)
abbrev KT (H:Hp):List (List Key×V)→List (List Key×Addr×Value)→Prop:=Paired λp q=>p.1=q.1∧H q.2.1=some (.tup (p.1.map kV))∧RelV p.2 q.2.2
theorem KT.val {H:Hp} {kvs:List (List Key×V)} {xs:List (List Key×Addr×Value)} (r:KT H kvs xs) (k:List Key):m5 (dh kvs k) ((atKey xs k).map (·.2)):=by
 induction r with
 | nil=>§True.intro
 | @cons p q ps qs h t ih=>
  £⟨h1,_,h2⟩:=h;¦e:p.1=k
  ·¤e':q.1=k:=h1.symm.trans e;¤b:atKey (q::qs) k=some q.2:=by simp[atKey,List.find?_cons,e']
   rw[bx e,b];§h2
  ·¤e':¬q.1=k:=λz=>e (h1.trans z);¤b:atKey (q::qs) k=atKey qs k:=by simp[atKey,List.find?_cons,e']
   rw[bz e,b];§ih
theorem KT.repl {H:Hp} {kvs:List (List Key×V)} {xs:List (List Key×Addr×Value)} (r:KT H kvs xs) (k:List Key) {y:V} {u:Value} (ry:RelV y u):
  KT H (kvs.map λkv=>if kv.1=k then (kv.1,y) else kv) (xs.map (putAt k u)):=by
 induction r with
 | nil=>§.nil
 | @cons p q ps qs h t ih=>
  rw[List.map_cons,List.map_cons];¶.cons ?_ ih;£⟨h1,h2,h3⟩:=h;unfold putAt;¦e:p.1=k
  ·rw[if_pos e,if_pos (h1.symm.trans e)];§⟨h1,h2,ry⟩
  ·rw[if_neg e,if_neg (λz=>e (h1.trans z))];§⟨h1,h2,h3⟩
theorem KT.put {H:Hp} {kvs:List (List Key×V)} {xs:List (List Key×Addr×Value)} (r:KT H kvs xs) (k:List Key) {b:Addr} {y:V} {u:Value} (hb:H b=some (.tup (k.map kV))) (ry:RelV y u):
  KT H (putK kvs k y) (storedH xs k b u):=by
 ¤e:(kvs.any λkv=>decide (kv.1=k))=(atKey xs k).isSome:=by
  rw[fo,(r.val k).i7,Option.isSome_map]
 unfold putK storedH;rw[e];¦q:(atKey xs k).isSome=true
 ·rw[if_pos q,if_pos q];§r.repl k ry
 ·rw[if_neg q,if_neg q];§Paired.snoc r ⟨rfl,hb,ry⟩
theorem KT.keeps {H H':Hp} {kvs:List (List Key×V)} {xs:List (List Key×Addr×Value)} (r:KT H kvs xs) (ht:∀b ys,H b=some (.tup ys)→H' b=some (.tup ys)):KT H' kvs xs:=
 Paired.mapP r λ_ _ z=>⟨z.1,ht _ _ z.2.1,z.2.2⟩
section
variable {P:Program} {w:World} {H:Hp} {h:Heap} {a:Addr}
theorem rd_of {u:HO} (ok:HOk P w H h) (e:Rd H a u):br P w H h a u:=e.ok ok
theorem xt {kvs:List (Key×V)} (ok:HOk P w H h) (e:Rd H a (.dK kvs)):kvs.length≤sizeLine∧(a==sysModules)=false∧∃vs,KV kvs vs∧h.DictOf (bj P w) a vs:=
 show br P w H h a (.dK kvs) from rd_of ok e
theorem dk_of {kvs:List (Key×V)} (ok:HOk P w H h) (e:H a=some (.dK kvs)):kvs.length≤sizeLine∧(a==sysModules)=false∧∃vs,KV kvs vs∧h.DictOf (bj P w) a vs:=xt ok (.inl e)
theorem mf {ks:List Key} (ok:HOk P w H h) (e:H a=some (.tup (ks.map kV))):(tupleKind (bj P w)).is h ks a:=by
 £⟨_,its,r,o,h1,h2,n,h3,_⟩:=(show br P w H h a (.tup (ks.map kV)) from ok a _ e);§⟨o,its.toArray,n,h1,h2,h3,by simpa using yn r⟩
theorem ym {kvs:List (List Key×V)} (ok:HOk P w H h) (e:Rd H a (.dT kvs)):kvs.length≤sizeLine∧(a==sysModules)=false∧
  ∃xs,KT H kvs xs∧h.DictOfH (tupleKind (bj P w)) a xs:=by
 £⟨z,y,xs,r,o,es,ep,h1,h2,h3,h4,h5⟩:=(show br P w H h a (.dT kvs) from rd_of ok e);¶⟨z,y,xs,r,o,es,ep,h1,h2,h3,h4,λx hx=>?_,h5⟩;¤all:∀{l:List (List Key×V)} {m:List (List Key×Addr×Value)},KT H l m→∀x∈m,(tupleKind (bj P w)).is h x.1 x.2.1:=by
  ¿l m q;induction q with
  | nil=>intro x hx;§nomatch hx
  | @cons p q ps qs hq t ih=>
   ¿x hx;rcases List.mem_cons.mp hx with e | hx
   ·subst e;§mf ok (by rw[←hq.1];§hq.2.1)
   ·§ih x hx
 §all r x hx
theorem J4 {kvs:List (List Key×V)} (ok:HOk P w H h) (e:H a=some (.dT kvs)):kvs.length≤sizeLine∧(a==sysModules)=false∧
  ∃xs,KT H kvs xs∧h.DictOfH (tupleKind (bj P w)) a xs:=ym ok (.inl e)
end
def jz (H:Hp) (a:Addr) (y:V) (r:Option V):Prop:=
 (∃kvs k,Rd H a (.dK kvs)∧y=kV k∧r=dh kvs k)∨∃kvs k b,Rd H a (.dT kvs)∧y=.ref b∧H b=some (.tup (k.map kV))∧r=dh kvs k
def vw (H:Hp) (a:Addr) (y v:V) (H':Hp):Prop:=
 (∃kvs k,H a=some (.dK kvs)∧y=kV k∧kvs.length < sizeLine∧H'=upd H a (.dK (putK kvs k v)))∨
 ∃kvs k b,H a=some (.dT kvs)∧y=.ref b∧H b=some (.tup (k.map kV))∧kvs.length < sizeLine∧H'=upd H a (.dT (putK kvs k v))
theorem jz.t {H:Hp} {a b:Addr} {kvs:List (List Key×V)} {k:List Key} (e:H a=some (.dT kvs)) (eb:H b=some (.tup (k.map kV))):jz H a (.ref b) (dh kvs k):=.inr ⟨kvs,k,b,.inl e,rfl,eb,rfl⟩
theorem vw.t {H:Hp} {a b:Addr} {kvs:List (List Key×V)} {k:List Key} {v:V} (e:H a=some (.dT kvs)) (eb:H b=some (.tup (k.map kV))) (hl:kvs.length < sizeLine):
  vw H a (.ref b) v (upd H a (.dT (putK kvs k v))):=.inr ⟨kvs,k,b,e,rfl,eb,hl,rfl⟩
section
variable {X:Cx} {pins:List (Addr×Obj)} {σ:St} {H:Hp} {s:Shared} {a:Addr} {y v:V} {u r:Value} {o:Option V} {A:Around} {E:Value→Shared→Prop}
theorem Inv.big (I:Inv X pins σ H s):sysModules < s.heap.objs.size:=by
 ¤h:mainGlobals < s.heap.objs.size:=(I.mod.glob.keeps I.bk).lt;§Nat.lt_trans (by decide) h
theorem Hk {Q:Value→Shared→Prop} (hu:A.units+1 < cLine) (I:Inv X pins σ H s) (g:jz H a y (some v)) (ry:RelV y u) (h:∀w' s',Inv X pins σ H s'→RelV v w'→Q w' s'):
  wpAny (model X.prog X.w) A (getItem (.ref a) u) Q E s:=by
 rcases g with ⟨kvs,k,e,ey,l⟩ | ⟨kvs,k,b,e,ey,eb,l⟩
 ·subst ey;£⟨z,hd,vs,rel,dd⟩:=xt I.hok e;£⟨w',hw,rw'⟩:=m5.some_of (v:=v) (o:=valueAt vs k) (by rw[l];§rel.val k);§wpAny_getItem_of (rg ry) dd.mapOf hw (h w' _ (I.tok _) rw')
 ·subst ey;cases (show u=Value.ref b from ry)
  £⟨z,hd,xs,rel,dd⟩:=ym I.hok e;£⟨w',hw,rw'⟩:=m5.some_of (v:=v) (o:=(atKey xs k).map (·.2)) (by rw[l];§rel.val k);£⟨p,hp,hp2⟩:=Option.map_eq_some_iff.mp hw;¶wpAny_getItem_heap (tupleKind_room_in1 hu) (mf I.hok eb) dd hp ?_;rw[hp2];§h w' _ (I.tok _) rw'
theorem d_in {Q:Value→Shared→Prop} (hu:A.units+1 < cLine) (I:Inv X pins σ H s) (g:jz H a y o) (ry:RelV y u) (h:∀s',Inv X pins σ H s'→Q (.bool o.isSome) s'):
  wpAny (model X.prog X.w) A (compareOp .In u (.ref a)) Q E s:=by
 rcases g with ⟨kvs,k,e,ey,l⟩ | ⟨kvs,k,b,e,ey,eb,l⟩
 ·subst ey;£⟨z,hd,vs,rel,dd⟩:=xt I.hok e;¶wpAny_in_of (rg ry) hd dd.mapOf ?_;rw[←(rel.val k).i7,←l];§h _ (I.tok _)
 ·subst ey;cases (show u=Value.ref b from ry)
  £⟨z,hd,xs,rel,dd⟩:=ym I.hok e;¶wpAny_in_heap (tupleKind_room_in1 hu) (mf I.hok eb) hd dd ?_;¤q:=(rel.val k).i7;rw[Option.isSome_map] at q;rw[←q,←l];§h _ (I.tok _)
theorem O1 {Q:Value→Shared→Prop} (hu:A.units+1 < cLine) (I:Inv X pins σ H s) (g:jz H a y o) (ry:RelV y u) (h:∀s',Inv X pins σ H s'→Q (.bool (!o.isSome)) s'):
  wpAny (model X.prog X.w) A (compareOp .NotIn u (.ref a)) Q E s:=by
 rcases g with ⟨kvs,k,e,ey,l⟩ | ⟨kvs,k,b,e,ey,eb,l⟩
 ·subst ey;£⟨z,hd,vs,rel,dd⟩:=xt I.hok e;¶wpAny_notIn_of (rg ry) hd dd.mapOf ?_;rw[←(rel.val k).i7,←l];§h _ (I.tok _)
 ·subst ey;cases (show u=Value.ref b from ry)
  £⟨z,hd,xs,rel,dd⟩:=ym I.hok e;¶wpAny_notIn_heap (tupleKind_room_in1 hu) (mf I.hok eb) hd dd ?_;¤q:=(rel.val k).i7;rw[Option.isSome_map] at q;rw[←q,←l];§h _ (I.tok _)
theorem Ae {h':Heap} {t':Nat} {ob:HO} (I:Inv X pins σ H s) (mu:Mut (H a)) (hs:Heap.SameBut a s.heap h') (he:∃q,h'.get? a=some q) (new:br X.prog X.w (upd H a ob) h' a ob):
  Inv X pins σ (upd H a ob) { s with heap:=h',toks:=t' }:=
 I.write (x:=a) (e:=a) mu (.inl rfl) (λb q hb z=>(hs.2 b hb).trans z) he new
theorem Jn {P:Program} {w:World} {H':Hp} {h':Heap} {kvs:List (Key×V)} {vs:List (Key×Value)} (z:kvs.length≤sizeLine) (hd:(a==sysModules)=false) (rel:KV kvs vs) (dd:h'.DictOf (bj P w) a vs):
  br P w H' h' a (.dK kvs):=⟨z,hd,vs,rel,dd⟩
theorem G7 {H':Hp} {Q:Unit→Shared→Prop} (hu:A.units+1 < cLine) (I:Inv X pins σ H s) (g:vw H a y v H') (ry:RelV y u) (rv:RelV v r) (h:∀s',Inv X pins σ H' s'→Q () s'):
  wpAny (model X.prog X.w) A (setItem (.ref a) u r) Q E s:=by
 rcases g with ⟨kvs,k,e,ey,l,eH⟩ | ⟨kvs,k,b,e,ey,eb,l,eH⟩
 ·subst ey eH;£⟨z,hd,vs,rel,dd⟩:=dk_of I.hok e;¤hz:vs.length≤sizeLine:=by rw[←rel.length];§z
  ¤hl:(putK kvs k v).length≤sizeLine:=by have:=gj kvs k v;¡
  ¶wpAny_setItem_pairs (hsz:=hz) (rg ry) dd λh' dd' hs=>h _ ?_;¤he:∃q,h'.get? a=some q:=let ⟨q,_,_,hq,_⟩:=dd';⟨q,hq⟩
  §Ae I (by rw[e];§True.intro) hs he (Jn hl hd (rel.put k rv) dd')
 ·subst ey eH;cases (show u=Value.ref b from ry)
  £⟨z,hd,xs,rel,dd⟩:=J4 I.hok e;¤hz:xs.length≤sizeLine:=by rw[←Paired.length rel];§z
  ¤hl:(putK kvs k v).length≤sizeLine:=by have:=gj kvs k v;¡
  ¶wpAny_setItem_heap (hsz:=hz) (tupleKind_room_in1 hu) (mf I.hok eb) dd λh' dd' hs=>h _ ?_;£⟨q,es,ep,hq,h2,h3,h4,_,h5⟩:=dd';¶Ae I (by rw[e];§True.intro) hs ⟨q,hq⟩ ⟨hl,hd,_,(rel.put k eb rv).keeps λc ys ec=>?_,q,es,ep,hq,h2,h3,h4,h5⟩;rw[af (df ec e (λz=>nomatch z))];§ec
end
section
variable {X:Cx} {pins:List (Addr×Obj)} {σ:St} {H:Hp} {s:Shared} {a:Addr} {kvs:List (Key×V)} {k:Key} {u:Value} {A:Around} {E:Value→Shared→Prop}
end
def NoSl (i:Expr):Prop:=∀ov iv,subscripted i false ov iv=operate [ov,iv] (getItem ov iv)
theorem Nk {prog:Program} {w:World} {A:Around} {E:Value→Shared→Prop} {s:Shared} {env:Env} {value slice:Expr} {pos:Pos} {T id:String} {Q:Value→Shared→Prop}
  (hl:typeLookup (.type T) "__getitem__"=pure (some (.builtin id))) (hs:NoSl slice)
  (h:wpAny (model prog w) A (eval value env) (λo s₁=>wpAny (model prog w) A (eval slice env) (λi s₂=>s₂.TypeIs o T∧wpAny (model prog w) A (getItem o i) Q E s₂) E s₁) E s):
  wpAny (model prog w) A (eval (.Subscript value slice pos) env) Q E s:=by
 ¶Subscript_ (wpAny_mono h (λo s₁ h₁=>wpAny_mono h₁ (λi s₂ h₂=>?_) λ_ _ x=>x) λ_ _ x=>x);£⟨hT,h₂⟩:=h₂;unfold subscriptTail;¶wpAny_bind ?_;rw[getitemInPython_of_ne hT.not_modules];¶wpAny_bind (wpAny_specialOf hT hl ?_);¤fin:wpAny (model prog w) A (subscripted slice false o i) (λr s₃=>wpAny (model prog w) A (letTemporaryGo value o r >>=λ_=>pure r) Q E s₃) E s₂:=by
  rw[hs o i];§wpAny_operating (wpAny_mono h₂ (λr s₃ h₃=>wpAny_bind (wpAny_letTemporaryGo (wpAny_pure h₃))) λ_ _ x=>x)
 first
  | §wpAny_pure (wpAny_bind fin)
  | §wpAny_bind (wpAny_pure (wpAny_bind fin))
  | §wpAny_bind fin
theorem Ax {X:Cx} {pins:List (Addr×Obj)} {σ:St} {H:Hp} {s:Shared} {a:Addr} {y:V} {o:Option V} (I:Inv X pins σ H s) (g:jz H a y o):s.TypeIs (.ref a) "dict":=by
 rcases g with ⟨kvs,k,e,_,_⟩ | ⟨kvs,k,b,e,_,_,_⟩
 ·£⟨_,_,vs,_,dd⟩:=xt I.hok e;§dd.typeIs
 ·£⟨_,_,xs,_,dd⟩:=ym I.hok e;§dd.typeIs
def tDGet (td ty:TE):TE:=λσ H Q=>td σ H λx H1=>ty σ H1 λy H2=>∃a v,x=.ref a∧jz H2 a y (some v)∧Q v H2
def tDIn (ty td:TE):TE:=λσ H Q=>ty σ H λy H1=>td σ H1 λx H2=>∃a o,x=.ref a∧jz H2 a y o∧Q (.bl o.isSome) H2
def Gb (ty td:TE):TE:=λσ H Q=>ty σ H λy H1=>td σ H1 λx H2=>∃a o,x=.ref a∧jz H2 a y o∧Q (.bl (!o.isSome)) H2
def sDPut (td ty tv:TE):TS:=λD σ H=>tv σ H λv H1=>td σ H1 λx H2=>ty σ H2 λy H3=>∃a H4,x=.ref a∧vw H3 a y v H4∧D.nx σ H4
section
variable {X:Cx} {o i e value:Expr} {pos pos' tpos:Pos} {td ty tv:TE}
theorem Nf (hu:X.A.units+1 < cLine) (ho:PE X o td) (hi:PE X i ty) (hs:NoSl i):PE X (.Subscript o i pos) (tDGet td ty):=by
 ¿pins s σ H Q I h;¶Nk PySem.F.slot_dict_getitem.lookup hs (thn (ho pins s σ H _ I h) λu s1 ⟨x,H1,I1,rx,q1⟩=>thn (hi pins s1 σ H1 _ I1 q1) λiv s2 ⟨y,H2,I2,ry,a,v,ex,g,q2⟩=>?_);subst ex;£rfl:u=Value.ref a:=rx;§⟨Ax I2 g,Hk hu I2 g ry λw' s3 I3 rw'=>⟨v,H2,I3,rw',q2⟩⟩
theorem pc_din (hu:X.A.units+1 < cLine) (hi:PE X i ty) (ho:PE X o td):PC X .In i o (tDIn ty td):=by
 ¿pins s σ H Q I h;¶thn (hi pins s σ H _ I h) λiv s1 ⟨y,H1,I1,ry,q1⟩=>thn (ho pins s1 σ H1 _ I1 q1) λu s2 ⟨x,H2,I2,rx,a,ov,ex,g,q2⟩=>?_;subst ex;£rfl:u=Value.ref a:=rx;§d_in hu I2 g ry λs3 I3=>⟨.bl ov.isSome,H2,I3,rfl,q2⟩
theorem Ih (hu:X.A.units+1 < cLine) (hi:PE X i ty) (ho:PE X o td):PC X .NotIn i o (Gb ty td):=by
 ¿pins s σ H Q I h;¶thn (hi pins s σ H _ I h) λiv s1 ⟨y,H1,I1,ry,q1⟩=>thn (ho pins s1 σ H1 _ I1 q1) λu s2 ⟨x,H2,I2,rx,a,ov,ex,g,q2⟩=>?_;subst ex;£rfl:u=Value.ref a:=rx;§O1 hu I2 g ry λs3 I3=>⟨.bl (!ov.isSome),H2,I3,rfl,q2⟩
theorem G2 (hu:X.A.units+1 < cLine) (ho:PE X o td) (hi:PE X i ty) (hv:PE X value tv) (hs:swapsWith value (some (.Subscript o i pos')) pos.line X.env=pure false):
  PS X (.Assign [.Subscript o i pos'] value pos) (sDPut td ty tv):=by
 ¿pins s σ H D I h;¶wpAny_Assign_Subscript (thn (hv pins s σ H _ I h) λr s1 ⟨v,H1,I1,rv,q1⟩=>thn (ho pins s1 σ H1 _ I1 q1) λu s2 ⟨x,H2,I2,rx,q2⟩=>thn (hi pins s2 σ H2 _ I2 q2) λiv s3 ⟨y,H3,I3,ry,a,H4,ex,g,q3⟩=>?_) hs;subst ex;£rfl:u=Value.ref a:=rx;§G7 hu I3 g ry rv λs4 I4=>⟨σ,H4,I4,q3⟩
end
theorem Ju {P:Program} {w:World} {H:Hp} (h:Heap) (hb:sysModules < h.objs.size):br P w H (h.push { cls:=.type "dict",data:=.dict #[] }) h.objs.size (.dK []):=
 ⟨Nat.zero_le _,beq_eq_false_iff_ne.mpr (Ne.symm (Nat.ne_of_lt hb)),[],.nil,Heap.DictOf.new h⟩
theorem M0 {P:Program} {w:World} {H:Hp} (h:Heap) (hb:sysModules < h.objs.size):br P w H (h.push { cls:=.type "dict",data:=.dict #[] }) h.objs.size (.dT []):=
 ⟨Nat.zero_le _,beq_eq_false_iff_ne.mpr (Ne.symm (Nat.ne_of_lt hb)),[],.nil,_,#[],0,Heap.get?_push_size _ rfl,⟨rfl,rfl,rfl⟩,rfl,rfl,List.nodup_nil⟩
def tDNewK:TE:=λ_ H Q=>∀p,H p=none→Q (.ref p) (upd H p (.dK []))
def Lp:TE:=λ_ H Q=>∀p,H p=none→Q (.ref p) (upd H p (.dT []))
section
variable {X:Cx} {pos:Pos}
theorem Bj:PE X (.Dict [] [] pos) Lp:=λpins s σ H Q I h=>
 wpAny_Dict_empty ⟨.ref s.heap.objs.size,_,I.laid (a:=s.heap.objs.size) (o:=.dT []) (t':=s.toks) (λ_ _ q=>Heap.get?_push_of_some _ q) (Nat.le_refl _) (M0 s.heap I.big),rfl,h _ (I.hok.fresh (Nat.le_refl _))⟩
end
def yz:List (TE×TE)→St→Hp→(List (V×V)→Hp→Prop)→Prop
 | [],_,H,Q=>Q [] H
 | (tk,tv)::r,σ,H,Q=>tk σ H λx H1=>tv σ H1 λy H2=>yz r σ H2 λps H3=>Q ((x,y)::ps) H3
abbrev VV:List (V×V)→List (Value×Value)→Prop:=Paired λp q=>RelV p.1 q.1∧RelV p.2 q.2
def PPs (X:Cx) (pos:Pos) (keys:List (Option Expr)) (values:List Expr) (trs:List (TE×TE)):Prop:=
 ∀(pins:List (Addr×Obj)) (s:Shared) (σ:St) (H:Hp) (Q:List (V×V)→Hp→Prop),Inv X pins σ H s→yz trs σ H Q→
  wpAny (model X.prog X.w) X.A (evalPairs (pairTrees keys values X.env pos)) (λvs s'=>∃ps H',Inv X pins σ H' s'∧VV ps vs∧Q ps H') X.xe s
theorem Qt {X:Cx} {pos:Pos}:PPs X pos [] [] []:=λpins s σ H Q I h=>pairTrees_nil_walk ⟨[],H,I,.nil,h⟩
theorem Jw {X:Cx} {pos:Pos} {k v:Expr} {ks:List (Option Expr)} {vs:List Expr} {tk tv:TE} {trs:List (TE×TE)} (hk:PE X k tk) (hv:PE X v tv) (hr:PPs X pos ks vs trs):
  PPs X pos (some k::ks) (v::vs) ((tk,tv)::trs):=λpins s σ H Q I h=>
 pairTrees_cons_walk (thn (hk pins s σ H _ I h) λu s1 ⟨x,H1,I1,rx,q1⟩=>thn (hv pins s1 σ H1 _ I1 q1) λw2 s2 ⟨y,H2,I2,ry,q2⟩=>
  thn (hr pins s2 σ H2 _ I2 q2) λws s3 ⟨ps,H3,I3,rel,q3⟩=>⟨(x,y)::ps,H3,I3,.cons ⟨rx,ry⟩ rel,q3⟩)
noncomputable def qp (kvs more:List (Key×V)):List (Key×V):=more.foldl (λacc kv=>putK acc kv.1 kv.2) kvs
theorem KV.merge:∀{more:List (Key×V)} {rs:List (Key×Value)} {kvs:List (Key×V)} {vs:List (Key×Value)},KV more rs→KV kvs vs→KV (qp kvs more) (merged vs rs):=by
 ¿more rs kvs vs r;unfold KV at r;induction r generalizing kvs vs with
 | nil=>intro q;§q
 | @cons p q ps qs h t ih=>
  ¿r0;¤e:KV (putK kvs p.1 p.2) (stored vs q.1 q.2):=by
   have:=r0.put p.1 h.2;rw[←h.1];§this
  §ih e
theorem me:∀(more kvs:List (Key×V)),(qp kvs more).length≤kvs.length+more.length
 | [],kvs=>by show kvs.length≤kvs.length+0;¡
 | p::r,kvs=>by
  ¤h1:=me r (putK kvs p.1 p.2);¤h2:=gj kvs p.1 p.2;show (qp (putK kvs p.1 p.2) r).length≤_
  rw[List.length_cons];¡
theorem uz {P:Program} {w:World}:∀{kvs:List (Key×V)} {ws:List (Value×Value)},VV (kvs.map λkv=>(kV kv.1,kv.2)) ws→∃rs,Carries (bj P w) ws rs∧KV kvs rs
 | [],_,r=>by rw[List.map_nil] at r;cases r;§⟨[],True.intro,.nil⟩
 | p::kvs,_,r=>by
  rw[List.map_cons] at r;cases r with
  | @cons a b as bs h t=>
   £⟨rs,c,q⟩:=uz (P:=P) (w:=w) t;£⟨b1,b2⟩:=b;§⟨(p.1,b2)::rs,⟨rg h.1,rfl,c⟩,.cons ⟨rfl,h.2⟩ q⟩
def tDisp (trs:List (TE×TE)):TE:=λσ H Q=>∀p,H p=none→yz trs σ (upd H p (.dK [])) λps H2=>H2 p=some (.dK [])∧∃kvs:List (Key×V),ps=kvs.map (λkv=>(kV kv.1,kv.2))∧kvs.length≤15∧Q (.ref p) (upd H2 p (.dK (qp [] kvs)))
theorem P0 {X:Cx} {pos:Pos} {keys:List (Option Expr)} {values:List Expr} {trs:List (TE×TE)} (h:PPs X pos keys values trs) (hall:keys.all (·.isSome)=true) (hl:keys.length=values.length) (h0:keys≠[])
  (h15:keys.length≤15):PE X (.Dict keys values pos) (tDisp trs):=by
 ¿pins s σ H Q I q;¤hn:=I.hok.fresh (Nat.le_refl s.heap.objs.size);¤I1:=I.laid (a:=s.heap.objs.size) (o:=.dK []) (h':=s.heap.push { cls:=.type "dict",data:=.dict #[] }) (t':=s.toks) (λ_ _ q=>Heap.get?_push_of_some _ q) (Nat.le_refl _) (Ju s.heap I.big);¶wpAny_Dict_walk (knd:=bj X.prog X.w) hall hl h0 h15 (thn (h pins _ σ _ _ I1 (q _ hn)) λws s2 ⟨ps,H2,I2,rel,e,kvs,ep,lk,q2⟩=>?_);subst ep;£⟨rs,c,rk⟩:=uz (P:=X.prog) (w:=X.w) rel;£⟨z,hd,vs0,r0,dd⟩:=dk_of I2.hok e;cases r0
 ¶⟨rs,c,dd,λh' dd' hs=>⟨.ref s.heap.objs.size,_,?_,rfl,q2⟩⟩;¤hz:(qp [] kvs).length≤sizeLine:=by
  ¤h1:=me kvs [];rw[List.length_nil] at h1;rw[sizeLine_eq];¡
 ¤he:∃q,h'.get? s.heap.objs.size=some q:=let ⟨q,_,_,hq,_⟩:=dd';⟨q,hq⟩
 §Ae I2 (by rw[e];§True.intro) hs he (Jn hz hd (rk.merge .nil) dd')
structure M2 (X:Cx) (o:Expr) (m:Str) (apos:Pos) (e f:Expr) (cpos:Pos):Prop where
 base:attributeBase o m X.env (eval o X.env)=eval o X.env
 few:((backTo cpos (starEach [e,f] X.env)).all (λx=>!x.1)&&(backToKw cpos (keywordEach [] X.env)).all (λx=>x.1.isSome)
  &&decide (([e,f]:List Expr).length+([]:List Keyword).length+(if ([]:List Keyword).isEmpty then 0 else 1) < 30))=true
 line:(apos.endLine==cpos.line)=true
 trees:backTo cpos (starEach [e,f] X.env)=[(false,eval e X.env),(false,eval f X.env)]
section
variable {X:Cx} {pins:List (Addr×Obj)} {σ:St} {H:Hp} {s:Shared} {a:Addr} {y d:V} {u r:Value} {o:Option V} {A:Around} {E:Value→Shared→Prop}
end
section
variable {X:Cx} {o e f:Expr} {apos cpos:Pos} {td ty tx:TE}
end
section
variable {X:Cx} {pins:List (Addr×Obj)} {σ:St} {H:Hp} {s:Shared} {a:Addr} {kvs:List (Key×V)} {A:Around} {E:Value→Shared→Prop}
end
section
variable {X:Cx} {pins:List (Addr×Obj)} {σ:St} {H:Hp} {s:Shared} {a:Addr} {y:V} {u:Value} {A:Around} {E:Value→Shared→Prop}
end
end L2
namespace L2
open PySem PySem.Spec PyProof.Rows
section
variable {X:Cx}
end
section
variable {κ:Type} [DecidableEq κ]
theorem Pf {kvs:List (κ×V)} {k:κ} {v:V} (h:dh kvs k=some v):k∈kvs.map (·.1):=by
 ¤q:(kvs.any λkv=>decide (kv.1=k))=true:=by
  rw[fo,h];all_goals rfl
 £⟨p,hp,e⟩:=List.any_eq_true.mp q;§List.mem_map.mpr ⟨p,hp,of_decide_eq_true e⟩
end
end L2
namespace L2
open PySem PySem.Spec PyProof.Rows
def vn (i:Nat):TE:=λσ H Q=>match σ[i]? with | some (some v)=>Q v H | _=>False
theorem pvD {X:Cx} (i:Nat) {x:Str} {pos:Pos} (hN:X.N[i]?=some x) (hv:Vis X.env.scope x) (hd:(x==("__debug__":Str))=false) (hcd:(x==("__classdict__":Str))=false):PE X (.Name x pos) (vn i):=λpins s σ H Q I h=>pv i hN hv hd hcd pins s σ H Q I (by
 unfold vn at h;split at h
 ·§⟨_,‹_›,h⟩
 ·§h.elim)
theorem pl {X:Cx} (i:Nat) {x:Str} {pos:Pos} (hN:X.N[i]?=some x) (hv:X.env.scope.names.lookup x=some .local) (hd:(x==("__debug__":Str)||x==("__classdict__":Str))=false):PE X (.Name x pos) (vn i):=pvD i hN (.inl hv) (Bool.or_eq_false_iff.mp hd).1 (Bool.or_eq_false_iff.mp hd).2
theorem pk {X:Cx} (i:Nat) {x:Str} {pos:Pos} (hN:X.N[i]?=some x) (hv:X.env.scope.names.lookup x=some .cell) (hd:(x==("__debug__":Str)||x==("__classdict__":Str))=false):PE X (.Name x pos) (vn i):=pvD i hN (.inr (.inl hv)) (Bool.or_eq_false_iff.mp hd).1 (Bool.or_eq_false_iff.mp hd).2
theorem ja {i:Nat} {σ:L2.St} {H:Hp} {Q:VK}:vn i σ H Q=∃v,σ[i]?=some (some v)∧Q v H:=by
 unfold vn;¶propext ⟨λh=>?_,λ⟨v,e,h⟩=>?_⟩
 ·split at h
  ·§⟨_,‹_›,h⟩
  ·§h.elim
 ·rw[e];§h
theorem Hy {α:Type} {a:α} {x y:List α}:(a::x=a::y)=(x=y):=propext ⟨λh=>(List.cons.inj h).2,λh=>by rw[h]⟩
theorem Pj {α:Type} {a b:α}:([a]=[b])=(a=b):=propext ⟨λh=>(List.cons.inj h).1,λh=>by rw[h]⟩
theorem Nv {α:Type} {a b c d:α}:([a,c]=[b,d])=(a=b∧c=d):=propext ⟨λh=>⟨(List.cons.inj h).1,(List.cons.inj (List.cons.inj h).2).1⟩,λ⟨h,k⟩=>by rw[h,k]⟩
theorem Pa {α:Type} {a b c d e f:α}:([a,c,e]=[b,d,f])=(a=b∧c=d∧e=f):=propext ⟨λh=>⟨(List.cons.inj h).1,(List.cons.inj (List.cons.inj h).2).1,(List.cons.inj (List.cons.inj (List.cons.inj h).2).2).1⟩,λ⟨h,k,l⟩=>by rw[h,k,l]⟩
theorem int_ex {a:Int} {p:Int→Prop}:(∃x,V.int a=V.int x∧p x)=p a:=propext ⟨λ⟨x,e,h⟩=>by cases e;§h,λh=>⟨a,rfl,h⟩⟩
theorem ref_ex {a:Addr} {p:Addr→Prop}:(∃x,V.ref a=V.ref x∧p x)=p a:=propext ⟨λ⟨x,e,h⟩=>by cases e;§h,λh=>⟨a,rfl,h⟩⟩
theorem bl_ex {a:Bool} {p:Bool→Prop}:(∃x,V.bl a=V.bl x∧p x)=p a:=propext ⟨λ⟨x,e,h⟩=>by cases e;§h,λh=>⟨a,rfl,h⟩⟩
theorem Nq {a b:Int} {p:Int→Int→Prop}:(∃x y,V.int a=V.int x∧V.int b=V.int y∧p x y)=p a b:=propext ⟨λ⟨x,y,e,e2,h⟩=>by cases e;cases e2;§h,λh=>⟨a,b,rfl,rfl,h⟩⟩
theorem ifY {c:Prop} [Decidable c] {A B:Prop} (hc:c) (h:A):if c then A else B:=by rw[if_pos hc];§h
theorem ifN {c:Prop} [Decidable c] {A B:Prop} (hc:¬c) (h:B):if c then A else B:=by rw[if_neg hc];§h
theorem us0 {α:Type} {P:List α→Prop} {us:List α} (hl:us.length=0) (h:P []):P us:=by
 rw[List.length_eq_zero_iff.mp hl];§h
theorem usS {α:Type} {P:List α→Prop} {us:List α} {n:Nat} (hl:us.length=n+1) (h:∀a us,us.length=n→P (a::us)):P us:=by
 cases us with
 | nil=>§absurd hl.symm (Nat.succ_ne_zero n)
 | cons a l=>§h a l (Nat.succ.inj hl)
theorem us1 {α:Type} {P:List α→Prop} {us:List α} (hl:us.length=1) (h:∀a,P [a]):P us:=usS hl λa us hl=>us0 (P:=λus=>P (a::us)) hl (h a)
theorem us2 {α:Type} {P:List α→Prop} {us:List α} (hl:us.length=2) (h:∀a b,P [a,b]):P us:=usS hl λa us hl=>us1 (P:=λus=>P (a::us)) hl (h a)
theorem us3 {α:Type} {P:List α→Prop} {us:List α} (hl:us.length=3) (h:∀a b c,P [a,b,c]):P us:=usS hl λa us hl=>us2 (P:=λus=>P (a::us)) hl (h a)
theorem us4 {α:Type} {P:List α→Prop} {us:List α} (hl:us.length=4) (h:∀a b c d,P [a,b,c,d]):P us:=usS hl λa us hl=>us3 (P:=λus=>P (a::us)) hl (h a)
theorem us5 {α:Type} {P:List α→Prop} {us:List α} (hl:us.length=5) (h:∀a b c d e,P [a,b,c,d,e]):P us:=usS hl λa us hl=>us4 (P:=λus=>P (a::us)) hl (h a)
def Ea (g:Int→Int→V):R2:=λx y H Q=>match x,y with | .int i,.int j=>Q (g i j) H | _,_=>False
def rID (C:Int→Int→Prop) (g:Int→Int→V):R2:=λx y H Q=>match x,y with | .int i,.int j=>C i j∧Q (g i j) H | _,_=>False
def rUD (g:Int→V):V→Hp→VK→Prop:=λx H Q=>match x with | .int i=>Q (g i) H | _=>False
def tBD (t:TE):TT:=λσ H Q=>t σ H λx H1=>match x with | .bl c=>Q c H1 | _=>False
def Ef (t:TE):TO:=λσ H Q=>t σ H λx H1=>match x with | .int i=>Q (some i) H1 | _=>False
theorem jv:@Ea=@rI0:=by
 funext g x y H Q
 ¶propext ⟨λh=>?_,λ⟨i,j,e,f,h⟩=>by subst e;subst f;§h⟩;unfold Ea at h;split at h
 ·§⟨_,_,rfl,rfl,h⟩
 ·§h.elim
theorem y6:@rID=@rI:=by
 funext C g x y H Q
 ¶propext ⟨λh=>?_,λ⟨i,j,e,f,h⟩=>by subst e;subst f;§h⟩;unfold rID at h;split at h
 ·§⟨_,_,rfl,rfl,h⟩
 ·§h.elim
theorem rUD_eq:@rUD=@rU:=by
 funext g x H Q
 ¶propext ⟨λh=>?_,λ⟨i,e,h⟩=>by subst e;§h⟩;unfold rUD at h;split at h
 ·§⟨_,rfl,h⟩
 ·§h.elim
theorem blD {x:V} {Q:Bool→Prop}:(match x with | .bl c=>Q c | _=>False)=∃c,x=.bl c∧Q c:=by
 ¶propext ⟨λh=>?_,λ⟨i,e,h⟩=>by subst e;§h⟩;split at h
 ·§⟨_,rfl,h⟩
 ·§h.elim
theorem j6:@tBD=@tB:=by
 funext t σ H Q
 §congrArg (t σ H) (funext λx=>funext λH1=>blD)
theorem Hz:@Ef=@K0:=by
 funext t σ H Q
 ¶congrArg (t σ H) (funext λx=>funext λH1=>propext ⟨λh=>?_,λ⟨i,e,h⟩=>by subst e;§h⟩);split at h
 ·§⟨_,rfl,h⟩
 ·§h.elim
variable {X:Cx}
theorem Nh:OpR X (binaryOp .Add) (Ea λi j=>.int (i+j)):=jv ▸ op_add
theorem Qi:OpR X (binaryOp .Sub) (Ea λi j=>.int (i - j)):=jv ▸ op_sub
theorem ni:OpR X (compareOp .Lt) (Ea λi j=>.bl (decide (i < j))):=jv ▸ op_lt
theorem jd:OpR X (compareOp .Gt) (Ea λi j=>.bl (decide (j < i))):=jv ▸ op_gt
theorem zc:OpR X (binaryOp .Mult) (rID CMul λi j=>.int (i*j)):=y6 ▸ op_mul
theorem Ko:OpR X (binaryOp .FloorDiv) (rID pj λi j=>.int (i / j)):=y6 ▸ Om
theorem O0:OpR X (binaryOp .Mod) (rID (λ_ j=>0 < j) λi j=>.int (i % j)):=y6 ▸ op_mod
theorem iu:OpR X (binaryOp .Pow) (rID CPow λi j=>.int (i ^ j.toNat)):=y6 ▸ op_pow
theorem jj:UnR X (unaryOp .USub) (rUD λi=>.int (-i)):=rUD_eq ▸ un_neg
theorem Pk {e:Expr} {t:TE} (h:PE X e t) (he:∀whole,isTrue e X.env whole=(do let v ←whole;standAt e.pos;holding [v] (truthy v))):PT X e (tBD t):=j6 ▸ pt_val h he
theorem P9 {a b:Expr} {pos:Pos} {op:CmpOp} {t:TE} (h:PC X op a b t) (h1:behindInMarks op b=false):PT X (.Compare a [op] [b] pos) (tBD t):=j6 ▸ pt_cmp h h1
theorem Bw {a b:Expr} {ta tb:TE} {pos:Pos} {op:CmpOp} {r:R2} (ho:OpR X (compareOp op) r) (ha:PE X a ta) (hb:PE X b tb) (hm:behindInMarks op b=false):PT X (.Compare a [op] [b] pos) (tBD (tOp r ta tb)):=j6 ▸ Ng ho ha hb hm
theorem My {e:Expr} {te:TE} (h:PE X e te):PO X (some e) (Ef te):=Hz ▸ Pg h
def Mq (K:PySem.W.Frag):List V→Hp→VK→Prop:=λxs H Q=>match xs with | [.ref p]=>∃ys,(SqL K H p ys∨SqT K H p ys)∧Q (.int ys.length) H | _=>False
def Me (K:PySem.W.Frag):List V→Hp→VK→Prop:=λxs H Q=>match xs with | [.ref p]=>∃ys,(SqL K H p ys∧∀l,H l=none→Q (.ref l) (upd H l (.tup ys)))∨(SqT K H p ys∧Q (.ref p) H) | _=>False
def Mc:List V→Hp→VK→Prop:=λxs H Q=>match xs with | [.int i]=>Q (.int i) H | [.bl k]=>Q (.int (if k then 1 else 0)) H | _=>False
theorem xi:gw X (.builtin "len") (Mq X.K):=by
 ¶Eq.mp (congrArg _ ?_) Ab;funext xs H Q
 ¶propext ⟨λ⟨p,ys,e,h⟩=>by subst e;§⟨ys,h⟩,λh=>?_⟩;unfold Mq at h;split at h
 ·§h.elim λys h=>⟨_,ys,rfl,h⟩
 ·§h.elim
theorem wo:gw X (.type "tuple") (Me X.K):=by
 ¶Eq.mp (congrArg _ ?_) xj;funext xs H Q
 ¶propext ⟨λ⟨p,ys,e,h⟩=>by subst e;§⟨ys,h⟩,λh=>?_⟩;unfold Me at h;split at h
 ·§h.elim λys h=>⟨_,ys,rfl,h⟩
 ·§h.elim
theorem gx:gw X (.type "int") Mc:=by
 ¶Eq.mp (congrArg _ ?_) Jc;funext xs H Q
 ¶propext ⟨λh=>?_,λh=>?_⟩
 ·rcases h with ⟨i,e,h⟩ | ⟨k,e,h⟩ <;> subst e <;> §h
 unfold Mc at h;split at h
 ·§.inl ⟨_,rfl,h⟩
 ·§.inr ⟨_,rfl,h⟩
 ·§h.elim
end L2
namespace Pc
section
variable {κ:Type} [DecidableEq κ]
noncomputable def cost (g:κ→Option Int):Int→List κ→Option Int
 | c,[]=>some c
 | c,k::r=>match g k with
  | none=>none
  | some v=>cost g (c+v) r
structure Ft (κ:Type) where
 key:κ
 own:Int
 hs:List κ
theorem gu {g:κ→Option Int} {c:Int} {k:κ} {r:List κ} {v:Int} (h:g k=some v):cost g c (k::r)=cost g (c+v) r:=by
 show (match g k with | none=>none | some v=>cost g (c+v) r)=_
 rw[h]
theorem i6 {g:κ→Option Int} {c:Int} {k:κ} {r:List κ} (h:g k=none):cost g c (k::r)=none:=by
 show (match g k with | none=>none | some v=>cost g (c+v) r)=_
 rw[h]
theorem lr {g:κ→Option Int} {c x:Int} {k:κ} {r:List κ} (h:cost g c (k::r)=some x):∃v,g k=some v∧cost g (c+v) r=some x:=by
 cases e:g k with
 | none=>rw[i6 e] at h;cases h
 | some v=>rw[gu e] at h;§⟨v,rfl,h⟩
theorem sr {g g':κ→Option Int}:∀{hs:List κ} {c c' x:Int},(∀k∈hs,∀v,g k=some v→∃v',g' k=some v'∧v'≤v)→c'≤c→cost g c hs=some x→∃x',cost g' c' hs=some x'∧x'≤x
 | [],c,c',x,_,hc,h=>⟨c',rfl,by cases h;§hc⟩
 | k::r,c,c',x,hk,hc,h=>by
  £⟨v,hv,h⟩:=lr h;£⟨v',hv',le⟩:=hk k List.mem_cons_self v hv;£⟨x',hx',le'⟩:=sr (c':=c'+v') (λk' m=>hk k' (List.mem_cons_of_mem _ m)) ¥ h;§⟨x',by rw[gu hv'];§hx',le'⟩
theorem vj {g g':κ→Option Int}:∀{hs:List κ} {c:Int},(∀k∈hs,g k=g' k)→cost g c hs=cost g' c hs
 | [],c,_=>rfl
 | k::r,c,h=>by
  ¤e:=h k List.mem_cons_self;cases q:g k with
  | none=>rw[i6 q,i6 (e ▸ q)]
  | some v=>rw[gu q,gu (e ▸ q)];§vj λk' m=>h k' (List.mem_cons_of_mem _ m)
theorem sq {g:κ→Option Int} (pos:∀k v,g k=some v→1≤v):∀{hs:List κ} {c x:Int},cost g c hs=some x→c≤x
 | [],c,x,h=>by cases h;§Int.le_refl _
 | k::r,c,x,h=>by
  £⟨v,hv,h⟩:=lr h;have:=sq pos h;have:=pos k v hv;¡
theorem G6 {g:κ→Option Int} (pos:∀k v,g k=some v→1≤v):∀{hs:List κ} {c x:Int},1≤c→cost g c hs=some x→∀k∈hs,∃v,g k=some v∧v < x
 | [],c,x,_,_,k,hk=>nomatch hk
 | k::r,c,x,hc,h,k',hk=>by
  £⟨v,hv,h2⟩:=lr h;¤p:=pos k v hv;¤p2:=sq pos h2;rcases List.mem_cons.mp hk with e | hk
  ·§⟨v,by rw[e];§hv,¥⟩
  ·§G6 pos ¥ h2 k' hk
theorem uo {g:κ→Option Int} {M:Int} (h0:0≤M) (hM:∀k v,g k=some v→v≤M):∀{hs:List κ} {c x:Int},cost g c hs=some x→x≤c+hs.length*M
 | [],c,x,h=>by cases h;simp
 | k::r,c,x,h=>by
  £⟨v,hv,h⟩:=lr h;have:=uo h0 hM h;have:=hM k v hv;rw[List.length_cons,Int.natCast_add,Int.add_mul];¡
def jh (F:List (Ft κ)) (g:κ→Option Int):Prop:=∀f∈F,∀c,cost g f.own f.hs=some c→∃v,g f.key=some v∧v≤c
def Due (F:List (Ft κ)) (g:κ→Option Int):Prop:=∀k v,g k=some v→∃f∈F,f.key=k∧∃c,cost g f.own f.hs=some c∧c≤v
structure Tbl (F:List (Ft κ)) (g:κ→Option Int):Prop where
 st:jh F g
 du:Due F g
 pos:∀k v,g k=some v→1≤v
theorem Tbl.exact {F:List (Ft κ)} {g:κ→Option Int} (h:Tbl F g) {k:κ} {v:Int} (hv:g k=some v):∃f∈F,f.key=k∧cost g f.own f.hs=some v:=by
 £⟨f,hf,rfl,c,hc,le⟩:=h.du k v hv;£⟨v',hv',le'⟩:=h.st f hf c hc;£rfl:v=v':=Option.some.inj (hv.symm.trans hv');§⟨f,hf,rfl,by rw[hc];congr 1;¡⟩
theorem Tbl.le {F:List (Ft κ)} {g g':κ→Option Int} (h:Tbl F g) (h':Tbl F g') (own:∀f∈F,1≤f.own):∀(n:Nat) (k:κ) (v:Int),v.toNat≤n→g k=some v→∃v',g' k=some v'∧v'≤v
 | 0,k,v,hn,hv=>by
  have:=h.pos k v hv;¡
 | n+1,k,v,hn,hv=>by
  £⟨f,hf,rfl,hc⟩:=h.exact hv;¤lt:=G6 h.pos (own f hf) hc;¤p:=h.pos _ v hv;£⟨x',hx',le⟩:=sr (g':=g') (c':=f.own) (λk hk w hw=>by
   £⟨w',hw',l⟩:=lt k hk;£rfl:w=w':=Option.some.inj (hw.symm.trans hw');§Tbl.le h h' own n k w ¥ hw) (Int.le_refl _) hc
  £⟨v',hv',le'⟩:=h'.st f hf x' hx';§⟨v',hv',¥⟩
theorem Tbl.eq {F:List (Ft κ)} {g g':κ→Option Int} (h:Tbl F g) (h':Tbl F g') (own:∀f∈F,1≤f.own):g=g':=by
 funext k
 cases e:g k with
 | some v=>
  £⟨v',hv',le⟩:=Tbl.le h h' own _ k v (Nat.le_refl _) e;£⟨v2,hv2,le2⟩:=Tbl.le h' h own _ k v' (Nat.le_refl _) hv';£rfl:v=v2:=Option.some.inj (e.symm.trans hv2);rw[hv'];congr 1
  ¡
 | none=>
  cases e':g' k with
  | none=>rfl
  | some v=>
   £⟨v',hv',_⟩:=Tbl.le h' h own _ k v (Nat.le_refl _) e';rw[e] at hv';cases hv'
noncomputable def gb (g:κ→Option Int) (k:κ) (v:Int):κ→Option Int:=λx=>if x=k then some v else g x
theorem cf {g:κ→Option Int} {k:κ} {v:Int}:gb g k v k=some v:=if_pos rfl
theorem dw {g:κ→Option Int} {k x:κ} {v:Int} (h:x≠k):gb g k v x=g x:=if_neg h
def Imp (g:κ→Option Int) (k:κ) (c:Int):Prop:=g k=none∨∃v,g k=some v∧c < v
theorem Imp.le {g:κ→Option Int} {k:κ} {c:Int} (h:Imp g k c) {x:κ} {v:Int} (hv:g x=some v):∃v',gb g k c x=some v'∧v'≤v:=by
 ¦e:x=k
 ·subst e;¶⟨c,cf,?_⟩;rcases h with h | ⟨w,h,l⟩
  ·rw[h] at hv;cases hv
  ·rw[h] at hv;cases hv;¡
 ·§⟨v,by rw[dw e];§hv,Int.le_refl _⟩
theorem Pq {F:List (Ft κ)} {g:κ→Option Int} {f:Ft κ} {c:Int} (D:Due F g) (hf:f∈F) (hc:cost g f.own f.hs=some c) (im:Imp g f.key c):Due F (gb g f.key c):=λk v hv=>by
 ¤up:∀{f':Ft κ} {c':Int},cost g f'.own f'.hs=some c'→∃x,cost (gb g f.key c) f'.own f'.hs=some x∧x≤c':=λh=>sr (λk _ v hv=>im.le hv) (Int.le_refl _) h;¦e:k=f.key
 ·subst e;rw[cf] at hv;cases hv
  £⟨x,hx,le⟩:=up hc;§⟨f,hf,rfl,x,hx,le⟩
 ·rw[dw e] at hv;£⟨f',hf',e',c',hc',le⟩:=D k v hv;£⟨x,hx,le'⟩:=up hc';§⟨f',hf',e',x,hx,¥⟩
noncomputable def cnt (F:List (Ft κ)) (g:κ→Option Int):Nat:=(F.filter λf=>(g f.key).isSome).length
theorem Dm (F:List (Ft κ)) (g:κ→Option Int):cnt F g≤F.length:=List.length_filter_le _ _
theorem j9 {g g':κ→Option Int}:∀(F:List (Ft κ)),(∀f∈F,(g f.key).isSome→(g' f.key).isSome)→cnt F g≤cnt F g'
 | [],_=>Nat.le_refl _
 | f::F,h=>by
  ¤ih:=j9 F λf' m=>h f' (List.mem_cons_of_mem _ m);¤h0:=h f List.mem_cons_self;unfold cnt at ih ⊢;rw[List.filter_cons,List.filter_cons];cases e:(g f.key).isSome with
  | false=>
   rw[if_neg (by simp)];split
   ·rw[List.length_cons];¡
   ·§ih
  | true=>
   rw[h0 e];simp only[if_true,List.length_cons];¡
theorem t7 {g:κ→Option Int} {k:κ} {c:Int} (hn:g k=none):∀(F:List (Ft κ)),(∃f∈F,f.key=k)→cnt F g+1≤cnt F (gb g k c)
 | [],h=>by £⟨f,hf,_⟩:=h;cases hf
 | f::F,h=>by
  ¤mono:=j9 (g:=g) (g':=gb g k c) F λf' _ e=>by
   ¦q:f'.key=k
   ·rw[q,cf];rfl
   ·rw[dw q];§e
  unfold cnt at mono ⊢;rw[List.filter_cons,List.filter_cons];¦q:f.key=k
  ·rw[q,hn,cf];simp only[Option.isSome_none,Option.isSome_some,if_true,Bool.false_eq_true,if_false,List.length_cons];¡
  ·rw[dw q];¤ih:=t7 (c:=c) hn F (by
    £⟨f',hf',e⟩:=h;rcases List.mem_cons.mp hf' with rfl | hf'
    ·§absurd e q
    ·§⟨f',hf',e⟩)
   unfold cnt at ih;cases (g f.key).isSome with
   | true=>simp only[if_true,List.length_cons];¡
   | false=>simp only[Bool.false_eq_true,if_false];¡
noncomputable def top (D P h:Nat):Nat→Nat
 | 0=>D
 | c+1=>top D P h c+P+h*top D P h c
theorem j5 (D P h:Nat):∀{a b:Nat},a≤b→top D P h a≤top D P h b:=λ{a b} hab=>by
 induction hab with
 | refl=>§Nat.le_refl _
 | @step m _ ih=>
  have:top D P h m≤top D P h (m+1):=by
   show _≤top D P h m+P+h*top D P h m
   rw[Nat.add_assoc];§Nat.le_add_right _ _
  §Nat.le_trans ih this
theorem nu {α:Type} (f:α→Nat):∀l:List α,∃B,∀x∈l,f x≤B
 | []=>⟨0,λ_ h=>nomatch h⟩
 | a::l=>by
  £⟨B,h⟩:=nu f l;¶⟨f a+B,λx hx=>?_⟩;rcases List.mem_cons.mp hx with rfl | hx
  ·§Nat.le_add_right _ _
  ·§Nat.le_trans (h x hx) (Nat.le_add_left _ _)
noncomputable def room (B:Nat) (F:List (Ft κ)) (g:κ→Option Int):Nat:=(F.map λf=>match g f.key with | some v=>v.toNat | none=>B+1).sum
theorem Br {B:Nat} {g:κ→Option Int} {k:κ} {c:Int} (im:Imp g k c) (h0:0≤c) (hB:c.toNat≤B):∀(F:List (Ft κ)),room B F (gb g k c)≤room B F g∧((∃f∈F,f.key=k)→room B F (gb g k c) < room B F g)
 | []=>⟨Nat.le_refl _,λh=>by £⟨f,hf,_⟩:=h;cases hf⟩
 | f::F=>by
  £⟨i1,i2⟩:=Br (B:=B) im h0 hB F;unfold room at i1 i2 ⊢;rw[List.map_cons,List.map_cons,List.sum_cons,List.sum_cons];¦q:f.key=k
  ·rw[q,cf];rcases im with e | ⟨v,e,l⟩
   ·rw[e];show c.toNat+_≤B+1+_∧(_→c.toNat+_ < B+1+_)
    §⟨¥,λ_=>by ¡⟩
   ·rw[e];show c.toNat+_≤v.toNat+_∧(_→c.toNat+_ < v.toNat+_)
    §⟨¥,λ_=>by ¡⟩
  ·rw[dw q];¶⟨¥,λh=>?_⟩;have:=i2 (by
    £⟨f',hf',e⟩:=h;rcases List.mem_cons.mp hf' with rfl | hf'
    ·§absurd e q
    ·§⟨f',hf',e⟩)
   ¡
theorem ends {F:List (Ft κ)} {g0:κ→Option Int} (pos0:∀k v,g0 k=some v→1≤v) (own:∀f∈F,1≤f.own) (hB:∃D:Nat,∀k v,g0 k=some v→v≤(D:Int)):
  ∃(μ:(κ→Option Int)→Nat) (Ok:(κ→Option Int)→Prop),Ok g0∧(∀g,Ok g→∀k v,g k=some v→1≤v)∧∀g f c,Ok g→f∈F→cost g f.own f.hs=some c→Imp g f.key c→Ok (gb g f.key c)∧μ (gb g f.key c) < μ g:=by
 £⟨D,hD⟩:=hB;£⟨P,hP⟩:=nu (λf:Ft κ=>f.own.toNat) F;£⟨h,hh⟩:=nu (λf:Ft κ=>f.hs.length) F;¶⟨room (top D P h F.length) F,λg=>(∀k v,g k=some v→1≤v∧v≤(top D P h (cnt F g):Int)),λk v hv=>⟨pos0 k v hv,?_⟩,λg ok k v hv=>(ok k v hv).1,λg f c ok hf hc im=>?_⟩
 ·¤a1:=hD k v hv;¤a2:=j5 D P h (Nat.zero_le (cnt F g0));¤a3:top D P h 0=D:=rfl;¡
 ·¤pos:∀k v,g k=some v→1≤v:=λk v hv=>(ok k v hv).1;¤c1:=sq pos hc;¤o1:=own f hf;¤hmono:cnt F g≤cnt F (gb g f.key c):=j9 F λf' _ e=>by
   ¦q:f'.key=f.key
   ·rw[q,cf];rfl
   ·rw[dw q];§e
  ¤hcb:c≤(top D P h (cnt F (gb g f.key c)):Int):=by
   rcases im with e | ⟨v,e,l⟩
   ·¤a1:=uo (M:=(top D P h (cnt F g):Int)) ¥ (λk v hv=>(ok k v hv).2) hc;¤a2:f.own.toNat≤P:=hP f hf;¤a3:f.hs.length≤h:=hh f hf;¤a4:=t7 (c:=c) e F ⟨f,hf,rfl⟩;¤a5:=j5 D P h a4;¤a6:top D P h (cnt F g+1)=top D P h (cnt F g)+P+h*top D P h (cnt F g):=rfl;¤a7:f.hs.length*top D P h (cnt F g)≤h*top D P h (cnt F g):=Nat.mul_le_mul_right _ a3;¤a8:((f.hs.length*top D P h (cnt F g):Nat):Int)=(f.hs.length:Int)*(top D P h (cnt F g):Int):=by rw[Int.natCast_mul]
    ¡
   ·have:=(ok _ v e).2;¤a5:=j5 D P h hmono;¡
  ¤tB:=j5 D P h (Dm F (gb g f.key c));¶⟨λk v hv=>?_,(Br im ¥ ¥ F).2 ⟨f,hf,rfl⟩⟩;¦q:k=f.key
  ·subst q;rw[cf] at hv;cases hv
   §⟨¥,hcb⟩
  ·rw[dw q] at hv;£⟨b1,b2⟩:=ok k v hv;¤a5:=j5 D P h hmono;§⟨b1,¥⟩
end
end Pc
namespace L2
open PySem PySem.Spec PyProof.Rows
theorem lookup_mem {α:Type} {x:Str} {c:α}:∀{l:List (Str×α)},l.lookup x=some c→(x,c)∈l
 | [],h=>by cases h
 | (y,d)::r,h=>by
  rw[List.lookup_cons] at h;cases e:x==y with
  | true=>
   rw[e] at h;¤e':x=y:=eq_of_beq e;cases h
   subst e';§List.mem_cons_self
  | false=>
   rw[e] at h;§List.mem_cons_of_mem _ (lookup_mem h)
noncomputable def xg (ix:List Nat) (σ:St):St:=ix.map λj=>(σ[j]?).getD none
def SubP (cs:List (Str×Addr)):List (Str×Addr)→Prop
 | []=>True
 | p::r=>cs.lookup p.1=some p.2∧SubP cs r
theorem SubP.of {cs:List (Str×Addr)}:∀{cl:List (Str×Addr)},SubP cs cl→∀p∈cl,cs.lookup p.1=some p.2
 | [],_,_,h=>by cases h
 | p::r,⟨h1,h2⟩,q,hq=>by
  rcases List.mem_cons.mp hq with e | e
  ·rw[e];§h1
  ·§SubP.of h2 q e
def Aq (X:Cx) (scope:Scope):List Str→List Nat→Prop
 | [],[]=>True
 | x::fr,j::ix=>(X.N[j]?=some x∧X.env.kindOf x=some .cell∧(relabel scope X.env).names.lookup x=some .cell)∧Aq X scope fr ix
 | _,_=>False
theorem Aq.len {X:Cx} {scope:Scope}:∀{fr:List Str} {ix:List Nat},Aq X scope fr ix→fr.length=ix.length
 | [],[],_=>rfl
 | x::fr,j::ix,h=>by rw[List.length_cons,List.length_cons,Aq.len h.2]
 | [],_::_,h=>h.elim
 | _::_,[],h=>h.elim
theorem Aq.get {X:Cx} {scope:Scope}:∀{fr:List Str} {ix:List Nat},Aq X scope fr ix→∀(k j:Nat),ix[k]?=some j→∃x,fr[k]?=some x∧X.N[j]?=some x∧X.env.kindOf x=some .cell∧(relabel scope X.env).names.lookup x=some .cell
 | [],[],_,k,j,e=>by simp at e
 | x::fr,i::ix,h,0,j,e=>by
  ¤e':i=j:=by simpa using e
  subst e';§⟨x,rfl,h.1⟩
 | x::fr,i::ix,h,k+1,j,e=>by
  £⟨y,hy,r⟩:=Aq.get h.2 k j (by simpa using e);§⟨y,by simpa using hy,r⟩
 | [],_::_,h,_,_,_=>h.elim
 | _::_,[],h,_,_,_=>h.elim
structure j0 (X:Cx) (scope:Scope) (own fr:List Str) (ix:List Nat) (cl:List (Str×Addr)):Prop where
 clos:closureFor scope X.env=pure cl
 kind:scope.kind=.function
 nocell:(scope.names.all λy=>decide (y.2≠.cell))=true
 names:(scope.names.all λy=>decide (y.2≠.local)||decide (scope.names.lookup y.1=some .local))=true
 sub:SubP X.env.cells cl
 has:((relabel scope X.env).names.all λy=>!(decide (y.2=.cell)||decide (y.2=.free))||(cl.lookup y.1).isSome)=true
 out':Aq X scope fr ix
section
variable {X:Cx} {scope:Scope} {own fr:List Str} {ix:List Nat} {cl:List (Str×Addr)}
theorem j0.len (C:j0 X scope own fr ix cl):fr.length=ix.length:=C.out'.len
theorem j0.out (C:j0 X scope own fr ix cl):∀(k j:Nat),ix[k]?=some j→∃x,fr[k]?=some x∧X.N[j]?=some x∧Vis X.env.scope x∧X.env.kindOf x≠some .local∧(relabel scope X.env).names.lookup x≠some .local:=λk j e=>by
 £⟨x,h1,h2,h3,h4⟩:=C.out'.get k j e;§⟨x,h1,h2,.inr (.inl h3),(by rw[h3];¿z;cases z),(by rw[h4];¿z;cases z)⟩
theorem j0.Pw (C:j0 X scope own fr ix cl):∀x∈scope.names,x.2≠.cell:=λx hx=>of_decide_eq_true (List.all_eq_true.mp C.nocell x hx)
theorem j0.Lj (C:j0 X scope own fr ix cl):∀x∈scope.names,x.2=.local→scope.names.lookup x.1=some .local:=λx hx e=>by
 ¤h:=List.all_eq_true.mp C.names x hx;rw[Bool.or_eq_true] at h;rcases h with h | h
 ·§absurd e (of_decide_eq_true h)
 ·§of_decide_eq_true h
theorem j0.sub' (C:j0 X scope own fr ix cl):∀x c,cl.lookup x=some c→X.env.cells.lookup x=some c:=λx c h=>C.sub.of _ (lookup_mem h)
theorem j0.has' (C:j0 X scope own fr ix cl):∀x,((relabel scope X.env).names.lookup x=some .cell∨(relabel scope X.env).names.lookup x=some .free)→∃c,cl.lookup x=some c:=λx hx=>by
 ¤key:∀k,(relabel scope X.env).names.lookup x=some k→(k=.cell∨k=.free)→∃c,cl.lookup x=some c:=λk e hk=>by
  ¤h:=List.all_eq_true.mp C.has (x,k) (lookup_mem e);rw[Bool.or_eq_true] at h;rcases h with h | h
  ·rcases hk with rfl | rfl
   ·simp at h
   ·simp at h
  ·§Option.isSome_iff_exists.mp h
 rcases hx with h | h
 ·§key _ h (.inl rfl)
 ·§key _ h (.inr rfl)
end
noncomputable def cxC (X:Cx) (scope:Scope) (cl:List (Str×Addr)) (ns:List Str) (fp:List Addr) (s:Shared) (H:Hp):Cx where
 prog:=X.prog
 w:=X.w
 K:=X.K
 mg:=X.mg
 base:=X.base
 A:=X.A
 N:=ns
 s₀:=s
 H₀:=H
 env:=compEnvC scope cl s.heap.objs.size X.env
 outer:=X.stack
 stack:=X.stack
 ex:=fp
 fn:=λ_=>false
 calm:=X.calm
 pn:=[]
 xe:=λ_ _=>False
section
variable {X:Cx} {scope:Scope} {own fr:List Str} {ix:List Nat} {cl:List (Str×Addr)} {pins:List (Addr×Obj)} {σ:St} {H:Hp} {s:Shared} {fp:List Addr}
theorem cxC_ok (C:j0 X scope own fr ix cl) (I:Inv X pins σ H s) (f:∀b∈fp,qr X pins H b) (lt:∀b∈fp,b < s.heap.objs.size):(cxC X scope cl (own++fr) fp s H).Ok where
 mod:=I.ok.mod
 kind:=C.kind
 glob:=I.ok.glob
 blt:=I.ok.blt
 above:=Nat.le_refl _
 inj:=λx y c h1 h2=>I.ok.inj x y c (C.sub' x c h1) (C.sub' y c h2)
 has:=λx hx=>C.has' x hx
 cab:=λx c h _=>Bool.noConfusion h
 hd:=I.ok.hd
 frames:=I.ok.frames
 stk:=.inl rfl
 exf:=λb hb=>⟨Nat.ne_of_lt (lt b hb),λx c e=>(f b hb).2.2.2.2.1 x c (C.sub' x c e)⟩
 bs:=λb o e=>I.bs b o e
 bsz:=Nat.le_trans I.ok.bsz I.sz
 noex:=λb o e hb=>by
  rcases (f b hb).2.2.2.1 with z | z
  ·§I.ok.noex b o e z
  ·§absurd (Nat.lt_of_lt_of_le (Heap.lt_size e) (Nat.le_trans I.ok.bsz z)) (Nat.lt_irrefl _)
 exfs:=λb hb z=>by
  rcases List.mem_cons.mp (I.Eg b z) with q | q
  ·§(f b hb).2.1 q
  ·§(f b hb).2.2.1 q
 se:=I.stack
 frf:=I.Fw
theorem Kj (C:j0 X scope own fr ix cl) (I:Inv X pins σ H s) (f:∀b∈fp,qr X pins H b) (lt:∀b∈fp,b < s.heap.objs.size) {h₁:Heap} {t:Nat} {m:Str→Option Value}
  (hns:h₁.Ns s.heap.objs.size m) (k:∀b o,s.heap.get? b=some o→h₁.get? b=some o):
  Inv (cxC X scope cl (own++fr) fp s H) [] (List.replicate own.length none++xg ix σ) H { s with heap:=h₁,toks:=t } where
 ok:=cxC_ok C I f lt
 os:=rfl
 bare:=I.bare
 base:=Un.kept k
 loc:=⟨m,hns,λi x v e1 e2 e3=>by
  ¤e1:(own++fr)[i]?=some x:=e1;¦hi:i < own.length
  ·rw[List.getElem?_append_left (by simpa using hi),List.getElem?_replicate] at e2;rw[if_pos hi] at e2;cases e2
  ·¤hi':own.length≤i:=Nat.le_of_not_lt hi;rw[List.getElem?_append_right (by simpa using hi')] at e2;rw[List.getElem?_append_right hi'] at e1;rw[List.length_replicate] at e2;unfold xg at e2;rw[List.getElem?_map] at e2;cases q:ix[i - own.length]? with
   | none=>rw[q] at e2;cases e2
   | some j=>
    rw[q] at e2;¤e2':(σ[j]?).getD none=some v:=Option.some.inj e2;£⟨x',hx',hN,hv,hk,hl'⟩:=C.out _ j q;rw[e1] at hx';cases hx'
    ¤e4:σ[j]?=some (some v):=by
     cases z:σ[j]? with
     | none=>rw[z] at e2';cases e2'
     | some w=>rw[z] at e2';§congrArg some e2'
    £⟨mX,hnX,hl⟩:=I.loc;£⟨u,r,l⟩:=hl j x v hN e4 hv;rcases l with ⟨kl,_⟩ | ⟨kk,c,ec,z⟩
    ·§absurd kl hk
    ·¤kY:(relabel scope X.env).names.lookup x=some .cell∨(relabel scope X.env).names.lookup x=some .free:=by
      rcases e3 with e3 | e3 | e3
      ·§absurd e3 hl'
      ·§.inl e3
      ·§.inr e3
     £⟨c',hc'⟩:=C.has' x kY;¤hcc:=C.sub' x c' hc';rw[ec] at hcc;cases hcc
     £⟨o,ho,hd⟩:=z;§⟨u,r,.inr ⟨kY,c,hc',⟨o,k c o ho,hd⟩⟩⟩⟩
 cell:=λx c e=>by
  £⟨v,o,ho,hd⟩:=I.cell x c (C.sub' x c e);§⟨v,o,k c o ho,hd⟩
 free:=I.hok.fresh (Nat.le_refl _)
 freeC:=λx c e=>I.freeC x c (C.sub' x c e)
 pin:=λp hp=>by cases hp
 hok:=I.hok.kept k
 len:=by
  show (List.replicate own.length none++xg ix σ).length=(own++fr).length
  rw[List.length_append,List.length_append,List.length_replicate,C.len];unfold xg;rw[List.length_map]
theorem Lh (I:Inv X pins σ H s) (f:∀b∈fp,qr X pins H b) {ns:List Str} {τ:St} {H':Hp} {s':Shared} {pins':List (Addr×Obj)} (J:Inv (cxC X scope cl ns fp s H) pins' τ H' s'):Inv X pins σ H' s':=
 I.call' (ch:=fp) J.os J.base J.hok J.bare λb hb=>⟨(f b hb).2.2.2.1,(f b hb).2.1,(f b hb).2.2.2.2.1,(f b hb).2.2.2.2.2⟩
theorem Cy {σ':St} (I:Inv X pins σ H s) {H':Hp} {s':Shared} {h':Heap} (J:Inv X pins σ' H' s') (free:H' s.heap.objs.size=none) (sb:Heap.SameBut s.heap.objs.size s'.heap h'):Inv X pins σ' H' { s' with heap:=h' }:=
 J.turned (it:=s.heap.objs.size) (t':=s'.toks) (λb o hb e=>(sb.2 b hb).trans e) free (Nat.ne_of_gt I.lt) (.inr I.sz)
  (λx c e z=>by
   £⟨v,q⟩:=I.cell x c e;§absurd (z ▸ q.lt) (Nat.lt_irrefl _))
  (λp hp z=>absurd (z ▸ Heap.lt_size (I.pin p hp).1) (Nat.lt_irrefl _))
end
section
variable {prog:Program} {w:World} {A:Around} {R:Result→Shared→Prop} {s:Shared}
theorem Ao {elt target iter:Expr} {ifs:List Expr} {scope:Scope} {pos:Pos} {it acc:Value} {env:Env} (I:Nat→Shared→Prop)
  (turn:∀n s,I n s→wpAny (model prog w) A (pyNext it) (λr s₁=>match r with
   | none=>R (.ok .next) s₁
   | some v=>wpAny (model prog w) A (letOwnedTupleGo target it v) (λ_ s₁'=>wpAny (model prog w) A (assign target env v) (λ_ s₂=>
     wpAny (model prog w) A (forIn ifs true λc r=>if r=true then do let ok ←isTrue c env (eval c env);pure (ForInStep.yield ok) else pure (ForInStep.yield r)) (λok s₃=>
      if ok=true then wpAny (model prog w) A (eval elt env) (λx s₄=>
       wpAny (model prog w) A (call (.builtin "list.append") [acc,x]) (λ_ s₅=>∃m,m < n∧I m s₅) (notedBy (model prog w) A env λe s'=>R (.error e) s') s₄) (notedBy (model prog w) A env λe s'=>R (.error e) s') s₃
      else ∃m,m < n∧I m s₃) (notedBy (model prog w) A env λe s'=>R (.error e) s') s₂) (notedBy (model prog w) A env λe s'=>R (.error e) s') s₁') (notedBy (model prog w) A env λe s'=>R (.error e) s') s₁)
    (notedBy (model prog w) A env λe s'=>R (.error e) s') s)
  (n:Nat) (h:I n s):
  codeAny (model prog w) A (.compLoop (.ListComp elt [⟨target,iter,ifs,0⟩] scope pos) 0 it acc env) R s:=by
 ¶codeAny_loop rfl I (λn s hI=>?_) n h;show wpAny _ A ((compTurn (.ListComp elt [⟨target,iter,ifs,0⟩] scope pos) 0 it acc env).onRaise (λx=>do noteFrame x env;theTreesLotGoes x)) _ _ s
 ¶wpAny_noted ?_;rw[compTurn_list];¶wpAny_bind (wpAny_standAt (wpAny_bind (wpAny_mono (turn n s hI) (λr s₁ h₁=>?_) λ_ _ h'=>h')));cases r with
 | none=>§wpAny_pure h₁
 | some v=>
  ¶wpAny_bind (wpAny_mono h₁ (λ_ s₁' h₁'=>?_) λ_ _ h'=>h');¶wpAny_bind (wpAny_mono h₁' (λ_ s₂ h₂=>wpAny_bind (wpAny_mono h₂ (λok s₃ h₃=>?_) λ_ _ h'=>h')) λ_ _ h'=>h');cases ok with
  | false=>§wpAny_pure ⟨rfl,h₃⟩
  | true=>
   §wpAny_bind (wpAny_bind (wpAny_mono h₃ (λx s₄ h₄=>wpAny_bind (wpAny_mono h₄ (λ_ s₅ h₅=>wpAny_pure (wpAny_pure ⟨rfl,h₅⟩)) λ_ _ h'=>h')) λ_ _ h'=>h'))
end
def PIfs (X:Cx) (ifs:List Expr) (t:TT):Prop:=
 ∀(pins:List (Addr×Obj)) (s:Shared) (σ:St) (H:Hp) (Q:Bool→Hp→Prop),Inv X pins σ H s→t σ H Q→
  wpAny (model X.prog X.w) X.A (forIn ifs true λc r=>if r=true then do let ok ←isTrue c X.env (eval c X.env);pure (ForInStep.yield ok) else pure (ForInStep.yield r)) (TP X pins σ Q) X.xe s
def tNoIf:TT:=λ_ H Q=>Q true H
theorem pif0 {X:Cx}:PIfs X [] tNoIf:=λpins s σ H Q I h=>wpAny_tests_nil ⟨H,I,h⟩
theorem pif1 {X:Cx} {c:Expr} {t:TT} (h:PT X c t):PIfs X [c] t:=λpins s σ H Q I q=>wpAny_tests_one (h pins s σ H Q I q)
def LC (n:Nat) (fr:St) (g:TG) (tc:TT) (te:TE) (J:It) (D:Addr) (H1:Hp) (Q:Hp→Prop):Prop:=
 ∃W:Nat→Nat→Hp→Prop,(∃m,W 0 m (upd H1 D (.lst [])))∧∀i m H,W i m H→
  (J.stop i H∧Q H)∨(J.go i H∧∀(τ:St) x H',τ.length=n→J.yld i H x H'→g x (τ++fr) H' λσ2 H2=>(∃τ':St,τ'.length=n∧σ2=τ'++fr)∧tc σ2 H2 λb H3=>
   if b=true then te σ2 H3 λy H4=>∃ys,H4 D=some (.lst ys)∧ys.length < sizeLine∧∃m',m' < m∧W (i+1) m' (upd H4 D (.lst (ys++[y]))) else ∃m',m' < m∧W (i+1) m' H3)
def tLC (n:Nat) (ix:List Nat) (wi:TI) (g:TG) (tc:TT) (te:TE):TE:=λσ H Q=>wi σ H λJ H1=>∀D,H1 D=none→LC n (xg ix σ) g tc te J D H1 λH'=>Q (.ref D) H'
section
variable {X:Cx} {scope:Scope} {own fr:List Str} {ix:List Nat} {cl:List (Str×Addr)} {elt iter tg:Expr} {ifs:List Expr} {pos:Pos} {wi:TI} {g:TG} {tc:TT} {te:TE}
theorem wa {E:Value→Shared→Prop} {RR:Value→Addr→Result→Shared→Prop} (C:j0 X scope own fr ix cl) (hc:X.calm=true)
  (hg:∀fp s H,PG (cxC X scope cl (own++fr) fp s H) tg g) (ht:∀fp s H,PIfs (cxC X scope cl (own++fr) fp s H) ifs tc) (he:∀fp s H,PE (cxC X scope cl (own++fr) fp s H) elt te)
  {pins:List (Addr×Obj)} {σ:St} {H2:Hp} {s2:Shared} {it:Addr} {fp:List Addr} {tn:Nat→Heap→Prop} {J:It} {Q:Hp→Prop} (I2:Inv X pins σ H2 s2) (T:Turn X.prog X.w X.K tg J fp it tn) (st2:tn 0 s2.heap) (f2:∀b∈fp,qr X pins H2 b)
  (q:LC own.length (xg ix σ) g tc te J s2.heap.objs.size H2 Q)
  (hRR:∀(s3 s':Shared) (H3 H':Hp) (τ:St),Inv X pins σ H3 s3→Inv X pins σ H' s'→H' s3.heap.objs.size=none→(∃m,s'.heap.Ns s3.heap.objs.size m)→Q H'→RR (.ref s2.heap.objs.size) s3.heap.objs.size (.ok .next) s'):
  wpAny (model X.prog X.w) X.A (newList []) (λacc s₃=>wpAny (model X.prog X.w) X.A (newFunctionEnv scope X.env.globals cl [] X.env.qual none .none (some X.env)) (λcenv s₄=>
   codeAny (model X.prog X.w) X.A (.compStart (.ListComp elt [⟨tg,iter,ifs,0⟩] scope pos) 0 (.ref it) acc { cenv with scope:=relabel scope X.env }) (RR acc cenv.locals) s₄) E s₃) E s2:=by
 ¶wpAny_newObj_type ?_;¤I3:Inv X pins σ (upd H2 s2.heap.objs.size (.lst [])) { s2 with heap:=s2.heap.push { cls:=.type "list",dict:=none,data:=.seq ([]:List Value).toArray } }:=I2.lnew (t':=s2.toks) (its:=[]) .nil (Nat.zero_le _);¤lt2:∀b∈fp,b < s2.heap.objs.size:=λb hb=>by
  £⟨o,e,_⟩:=T.obj 0 _ st2 b hb;§Heap.lt_size e
 ¤fneD:∀b∈fp,b≠s2.heap.objs.size:=λb hb=>Nat.ne_of_lt (lt2 b hb);generalize hs3:({ s2 with heap:=s2.heap.push { cls:=.type "list",dict:=none,data:=.seq ([]:List Value).toArray } }:Shared)=s3 at I3 ⊢;¤hsz:s3.heap.objs.size=s2.heap.objs.size+1:=by rw[←hs3];§Heap.size_push ..
 ¤kp23:∀b o,s2.heap.get? b=some o→s3.heap.get? b=some o:=λb o e=>by rw[←hs3];§Heap.get?_push_of_some _ e
 ¤f3:∀b∈fp,qr X pins (upd H2 s2.heap.objs.size (.lst [])) b:=λb hb=>by
  £⟨f0,fr⟩:=f2 b hb;§⟨by rw[af (fneD b hb)];§f0,fr⟩
 ¤lt3:∀b∈fp,b < s3.heap.objs.size:=λb hb=>by rw[hsz];§Nat.lt_succ_of_lt (lt2 b hb)
 ¶wpAny_newFunctionEnv C.Pw (by ¿y hy;simp at hy) (λh₁ hns₁ hsb₁=>?_) C.kind;¤k34:∀b o,s3.heap.get? b=some o→h₁.get? b=some o:=λb o e=>
  (hsb₁.2 b (Nat.ne_of_lt (Heap.lt_size e))).trans (Heap.get?_push_of_some _ e)
 ¤I4:=Kj C I3 f3 lt3 (t:=s3.toks+([]:List (Str×Value)).length) hns₁ k34;¤st4:tn 0 h₁:=T.keep 0 _ _ st2 λb _ o e=>k34 b o (kp23 b o e);£⟨W,⟨m0,w0⟩,turn⟩:=q;¤loop:∀s4:Shared,s4={ s3 with heap:=h₁,toks:=s3.toks+([]:List (Str×Value)).length }→
   codeAny (model X.prog X.w) X.A (.compLoop (.ListComp elt [⟨tg,iter,ifs,0⟩] scope pos) 0 (.ref it) (.ref s2.heap.objs.size) (compEnvC scope cl s3.heap.objs.size X.env)) (RR (.ref s2.heap.objs.size) s3.heap.objs.size) s4:=by
  rintro s4 rfl;¤stat:∀{H':Hp},(∀b∈fp,H' b=none)→∀b∈fp,qr (cxC X scope cl (own++fr) fp s3 (upd H2 s2.heap.objs.size (.lst []))) [] H' b:=λ{H'} hn b hb=>
   ⟨hn b hb,Nat.ne_of_lt (lt3 b hb),I4.ok.exfs b hb,.inl hb,(I4.ok.exf b hb).2,λp hp=>by cases hp⟩
  ¶Ao (λn s'=>∃i τ H',τ.length=own.length∧Inv (cxC X scope cl (own++fr) fp s3 (upd H2 s2.heap.objs.size (.lst []))) [] (τ++xg ix σ) H' s'∧tn i s'.heap∧(∀b∈fp,H' b=none)∧W i n H') ?_ m0
   ⟨0,List.replicate own.length none,_,List.length_replicate,I4,st4,λb hb=>(f3 b hb).1,w0⟩
  rintro n s5 ⟨i,τ,H5,hτ,I5,st5,fr5,w5⟩;rcases turn i n H5 w5 with ⟨stop,qn⟩ | ⟨go,step⟩
  ·¶wpAny_mono (T.done (cxC X scope cl (own++fr) fp s3 (upd H2 s2.heap.objs.size (.lst []))) rfl rfl rfl hc i [] s5 _ H5 (λ_ _=>False) I5 (stat fr5) st5 stop) (λr s6 ⟨hr,I6⟩=>?_) λ_ _ z=>z.elim;subst hr;£⟨mm,hmm,_⟩:=I6.loc;§hRR s3 s6 _ H5 τ I3 (Lh I3 f3 I6) I6.free ⟨mm,hmm⟩ qn
  ·¶wpAny_mono (T.item (cxC X scope cl (own++fr) fp s3 (upd H2 s2.heap.objs.size (.lst []))) rfl rfl rfl hc i [] s5 _ H5 (λ_ _=>False) I5 (stat fr5) st5 go) (λr s6 ⟨u,hr,h6⟩=>?_) λ_ _ z=>z.elim;subst hr;¶wpAny_mono h6 (λ_ s7 ⟨x,H7,I7,r7,y7,st7,fr7⟩=>?_) λ_ _ z=>z.elim;¤I7':=I7.pinned (stat fr7) (T.obj _ _ st7);¶wpAny_mono (hg fp s3 _ _ s7 _ H7 x u _ I7' r7 (step τ x H7 hτ y7)) (λ_ s8 ⟨σ8,H8,I8,⟨τ',hτ',e8⟩,q8⟩=>?_) λ_ _ z=>z.elim;¤fin:∀{H9:Hp} {s9:Shared},Inv (cxC X scope cl (own++fr) fp s3 (upd H2 s2.heap.objs.size (.lst []))) ([]++xb fp s7.heap) σ8 H9 s9→(∃m',m' < n∧W (i+1) m' H9)→
     ∃m,m < n∧∃i τ H',τ.length=own.length∧Inv (cxC X scope cl (own++fr) fp s3 (upd H2 s2.heap.objs.size (.lst []))) [] (τ++xg ix σ) H' s9∧tn i s9.heap∧(∀b∈fp,H' b=none)∧W i m H':=λ{H9 s9} I9 hw=>by
    £⟨m',hm,w9⟩:=hw;¶⟨m',hm,i+1,τ',H9,hτ',e8 ▸ I9.ph,T.keep _ _ _ st7 λb hb o e=>(I9.pin (b,o) (List.mem_append_right _ (List.mem_append_right _ (jr hb e)))).1,λb hb=>?_,w9⟩;£⟨o,e,d⟩:=T.obj _ _ st7 b hb;§(I9.pin (b,o) (List.mem_append_right _ (List.mem_append_right _ (jr hb e)))).2.1
   ¶wpAny_mono (ht fp s3 _ _ s8 σ8 H8 _ I8 q8) (λok s9 ⟨H9,I9,q9⟩=>?_) λ_ _ z=>z.elim;cases ok with
   | false=>§fin I9 q9
   | true=>
    ¶wpAny_mono (he fp s3 _ _ s9 σ8 H9 _ I9 q9) (λy s10 ⟨v10,H10,I10,r10,ys,hD,hz,q10⟩=>?_) λ_ _ z=>z.elim;¶wpAny_mono (x8 (X:=cxC X scope cl (own++fr) fp s3 (upd H2 s2.heap.objs.size (.lst []))) _ s10 σ8 H10 (.ref s2.heap.objs.size) [v10] _ [y] (λ_ H'=>∃m',m' < n∧W (i+1) m' H') I10 rfl (.cons r10 .nil) ⟨_,ys,v10,rfl,rfl,hD,hz,q10⟩) (λ_ s11 ⟨_,H11,I11,_,q11⟩=>?_) λ_ _ z=>z.elim;§fin I11 q11
 §codeAny_compStart_list (loop _ rfl) (T.self _ 0 _ _ _ st4 (loop _ rfl))
theorem pe_lc (C:j0 X scope own fr ix cl) (hc:X.calm=true) (hi:PI X tg iter wi) (hg:∀fp s H,PG (cxC X scope cl (own++fr) fp s H) tg g)
  (ht:∀fp s H,PIfs (cxC X scope cl (own++fr) fp s H) ifs tc) (he:∀fp s H,PE (cxC X scope cl (own++fr) fp s H) elt te)
  (hs:∀x,foldedSetIterable iter X.env x=pure x:=by ¿_;rfl):PE X (.ListComp elt [⟨tg,iter,ifs,0⟩] scope pos) (tLC own.length ix wi g tc te):=by
 ¿pins s σ H Q I h;rw[eval_ListComp];¶wpAny_comprehension_free (use:=none) rfl hs C.clos C.kind C.Lj (thn (hi pins s σ H _ I h) λv s1 h1=>thn h1 λitv s2 h2=>?_);£⟨it,fp,tn,J,H2,e,I2,T,st2,f2,q⟩:=h2;subst e;¶wa (RR:=λacc D=>compPost (model X.prog X.w) X.A X.xe none (EP X pins σ Q) acc D) C hc hg ht he I2 T st2 f2 (q _ (I2.hok.fresh (Nat.le_refl _))) λs3 s' H3 H' τ I3 I' hn hm q'=>?_;£⟨m,hm⟩:=hm;§⟨m,hm,λh' sb=>⟨.ref s2.heap.objs.size,H',Cy I3 I' hn sb,rfl,q'⟩⟩
def Ki (i n:Nat) (ix:List Nat) (wi:TI) (g:TG) (tc:TT) (te:TE):TS:=λD σ H=>wi σ H λJ H1=>∀l,H1 l=none→LC n (xg ix σ) g tc te J l H1 λH'=>D.nx (σ.set i (some (.ref l))) H'
theorem Ar {i:Nat} {x:Str} {px spos:Pos} (hN:X.N.Nodup) (hx:X.N[i]?=some x) (hl:Loc X.env.scope x) (C:j0 X scope own fr ix cl) (hc:X.calm=true) (hi:PI X tg iter wi)
  (hg:∀fp s H,PG (cxC X scope cl (own++fr) fp s H) tg g) (ht:∀fp s H,PIfs (cxC X scope cl (own++fr) fp s H) ifs tc) (he:∀fp s H,PE (cxC X scope cl (own++fr) fp s H) elt te)
  (hsw:swapsWith (.ListComp elt [⟨tg,iter,ifs,0⟩] scope pos) (some (.Name x px)) spos.line X.env=pure true:=by rfl)
  (hs:∀x,foldedSetIterable iter X.env x=pure x:=by ¿_;rfl) (hf:X.fn x=true∨X.env.scope.names.lookup x=some .local:=by first | §.inl rfl | §.inr rfl | assumption):
  PS X (.Assign [.Name x px] (.ListComp elt [⟨tg,iter,ifs,0⟩] scope pos) spos) (Ki i own.length ix wi g tc te):=by
 ¿pins s σ H D I h;rw[exec_Assign_Name_used _ _ _ _ hsw];¶wpAny_bind (wpAny_standAt (wpAny_bind ?_));show wpAny _ X.A (do let _ ←comprehension (.ListComp elt [⟨tg,iter,ifs,0⟩] scope pos) scope X.env _ (newList []) false (eval iter X.env) (some (assign (.Name x px) X.env))) _ _ s
 ¶wpAny_bind (wpAny_mono (wpAny_comprehension_free (use:=some (assign (.Name x px) X.env)) (Q:=λ_ s'=>SP X pins D .next s') rfl hs C.clos C.kind C.Lj
  (thn (hi pins s σ H _ I h) λv s1 h1=>thn h1 λitv s2 h2=>?_)) (λ_ s' hq=>wpAny_pure (wpAny_pure hq)) λ_ _ e=>e)
 £⟨it,fp,tn,J,H2,e,I2,T,st2,f2,q⟩:=h2;subst e;¶wa (RR:=λacc C=>compPost (model X.prog X.w) X.A X.xe (some (assign (.Name x px) X.env)) (λ_ s'=>SP X pins D .next s') acc C) C hc hg ht he I2 T st2 f2 (q _ (I2.hok.fresh (Nat.le_refl _))) λs3 s' H3 H' τ I3 I' hn hm q'=>?_;£⟨m,hm⟩:=hm;show wpAny _ X.A (assign (.Name x px) X.env (.ref s2.heap.objs.size)) _ _ _
 ¶wpAny_assign_Name (yj I' hN hx hl (v:=.ref s2.heap.objs.size) rfl (λs'' I'' hsb=>?_) hf);£⟨a,sba,ha⟩:=hsb;¤hne:s3.heap.objs.size≠a:=by
  rcases ha with rfl | ha
  ·§Nat.ne_of_gt I3.lt
  ·£⟨v,qv⟩:=I3.cell x a ha;§Nat.ne_of_gt qv.lt
 §⟨m,hm.sameBut sba hne,λh' sb=>⟨_,H',Cy I3 I'' hn sb,q'⟩⟩
end
end L2
namespace L2
open PySem PySem.Spec PyProof.Rows
noncomputable def Its (z:Str):It:=⟨λi _=>i < z.cps.size,λi H x H'=>H'=H∧∃c,z.cps[i]?=some c∧x=.str ⟨#[c]⟩,λi _=>i=z.cps.size⟩
def iStr (tl:TE):TI:=λσ H R=>tl σ H λx H1=>∃z,x=.str z∧R (Its z) H1
section
variable {X:Cx} {tg:Expr}
end
section
variable {X:Cx}
end
noncomputable def cutS (z:Str) (lo hi:Option Int):Str:=⟨((z.cps.toList.drop (HT.sIx z.length 0 lo)).take (HT.sIx z.length z.length hi - HT.sIx z.length 0 lo)).toArray⟩
section
variable {X:Cx}
def rSlS:V→Option Int→Option Int→Hp→VK→Prop:=λx lo hi H Q=>∃z,x=.str z∧z.length≤sizeLine∧Q (.str (cutS z lo hi)) H
noncomputable def n6 (z:Str) (n:Nat):Str:=⟨(List.replicate n z.cps.toList).flatten.toArray⟩
theorem yl (x:List Nat):∀(n:Nat) (acc:Array Nat),(List.replicate n x.toArray).foldl (·++·) acc=acc++(List.replicate n x).flatten.toArray
 | 0,acc=>by simp
 | n+1,acc=>by
  rw[List.replicate_succ,List.foldl_cons,yl x n,List.replicate_succ,List.flatten_cons];apply Array.toList_inj.mp
  simp
theorem Ql (z:Str) (n:Int) (h:0≤n):Txt.mul z n=n6 z n.toNat:=by
 unfold Txt.mul n6;¦h1:n < 1
 ·rw[if_pos h1];¤e:n.toNat=0:=by ¡
  rw[e];rfl
 ·rw[if_neg h1];¦h2:(n==1||z.length==0)=true
  ·rw[if_pos h2];rw[Bool.or_eq_true] at h2;rcases h2 with h2 | h2
   ·¤e:n=1:=eq_of_beq h2;subst e;show z=⟨(List.replicate 1 z.cps.toList).flatten.toArray⟩
    simp
   ·¤e:z.length=0:=eq_of_beq h2;¤e0:z.cps=#[]:=Array.eq_empty_of_size_eq_zero e;cases z with
    | mk c=>cases e0;simp
  ·rw[if_neg h2];¤e:=yl z.cps.toList n.toNat #[];¤e3:z.cps.toList.toArray=z.cps:=by simp
   rw[e3] at e;rw[e];simp
theorem mj:OpR X (binaryOp .Mult) (λx y H Q=>∃z n,x=.str z∧y=.int n∧0≤n∧n≤1000∧z.length≤1000∧Q (.str (n6 z n.toNat)) H):=by
 ¿pins s σ H x y v u Q I rx ry h;£⟨z,n,rfl,rfl,h0,h1,h2,q⟩:=h;£⟨t,rfl⟩:=rx;£⟨t',rfl⟩:=ry;¤hb:z.length*n.toNat≤1000*1000:=Nat.mul_le_mul h2 ¥;¶SB.mul ⟨by rw[Bool.or_eq_false_iff];§⟨decide_eq_false ¥,decide_eq_false ¥⟩,λhn1 _=>?_,λ_ _=>?_⟩ λt' k=>⟨.str _,H,I.tok _,⟨_,rfl⟩,by rw[Ql z n h0];§q⟩
 ·¤hp:0 < n:=by ¡
  ¤h3:(z.length:Int)*n≤1000*n:=Int.mul_le_mul_of_nonneg_right ¥ h0;¤h4:(z.length:Int)≤(2 ^ 63 - 1) / n:=Int.le_ediv_of_mul_le hp ¥;¡
 ·unfold Builtin.Str.tooLong;§decide_eq_false (by have:=sizeLine_eq;¡)
theorem Cw:gw X (.builtin "isinstance") (λxs H Q=>∃x n t b,xs=[x,.ty n]∧ql X.K H x t∧PySem.W.kitOne X.K t (.type n)=some b∧Q (.bl b) H):=by
 ¿pins s σ H xs us Q I r h;£⟨x,n,t,b,rfl,ty,e,q⟩:=h;£⟨u,u2,rfl,r1,r2⟩:=vals2 r;cases (show u2=Value.type n from r2)
 §Hg I r1 ty e λtk=>⟨.bl b,H,I.tok tk,rfl,q⟩
end
end L2
namespace L2
open PySem PySem.Spec PyProof.Rows
theorem aa {H:Hp} {p:Addr} (h:H p=none) (o:HO):ak H (upd H p o):=λb u q=>by rw[af (ag q h)];§q
theorem ak.upd {H H':Hp} {p:Addr} (e:ak H H') (h:H p=none) (o:HO):ak H (L2.upd H' p o):=λb u q=>by rw[af (ag q h)];§e b u q
theorem ak.tup {K:PySem.W.Frag} {H H':Hp} {a:Addr} {xs:List V} (e:ak H H') (h:SqT K H a xs):SqT K H' a xs:=by
 rcases h with (h | ⟨o,h⟩) | h
 ·§.inl (.inl (e _ _ h))
 ·§.inl (.inr ⟨o,e _ _ h⟩)
 ·§.inr h
def Has (P:Program) (w:World) (K:PySem.W.Frag) (mg:Str→Option Value) (base:Heap) (k:Nat) (x:Str) (ps:List Str) (sp:Sp):Prop:=
 ∃(f:Addr) (fd:FuncData),qc P w K mg base CX0 k f fd ps sp∧Binds K fd ps []∧PySem.W.keepIn K (.ref f)=true∧mg x=some (.ref f)
theorem Has.up {P:Program} {w:World} {K:PySem.W.Frag} {mg:Str→Option Value} {base:Heap} {j k:Nat} {x:Str} {ps:List Str} {sp:Sp} (h:Has P w K mg base j x ps sp) (l:j≤k):Has P w K mg base k x ps sp:=by
 £⟨f,fd,F,r⟩:=h;§⟨f,fd,F.mono l,r⟩
def Def (K:PySem.W.Frag) (mg:Str→Option Value) (x:Str) (st:Stmt) (ps:List Str):Prop:=
 ∃(f:Addr) (fd:FuncData),Fun K x x st f fd∧Binds K fd ps []∧mg x=some (.ref f)
theorem Def.has {P:Program} {w:World} {K:PySem.W.Frag} {mg:Str→Option Value} {base:Heap} {k:Nat} {x:Str} {st:Stmt} {N ps:List Str} {sp:Sp} (D:Def K mg x st ps) (S:az N ps (ah st)) (len:∀vs H Q E,sp vs H Q E→vs.length=ps.length)
  (hbody:∀(f:Addr) (cdv:Value) (A:Around) (outer:List Env) (s:Shared) (H:Hp) (vs:List V) (Q:VK) (E:XK),iy k (A.deeper (envOfC x (ah st) s.heap.objs.size f cdv))→sp vs H Q E→
   ∃t,PSs (sd CX0 P w K mg base N x (ah st) f cdv A outer s H E).nox (aw st) t∧t { nx:=λ_ H'=>Q .non H',rt:=Q } (start N vs) H):Has P w K mg base (k+1) x ps sp:=by
 £⟨f,fd,F,b,m⟩:=D;§⟨f,fd,F.ok S len λcdv A outer s H vs Q E hr h=>hbody f cdv A outer s H vs Q E hr h,b,F.kp,m⟩
section
variable {X:Cx} {k:Nat} {ps:List Str} {sp:Sp} {x:Str} {p pos:Pos} {e:Expr} {es:List Expr} {t:TA}
theorem pe_has (h:Has X.prog X.w X.K X.mg X.base k x ps sp) (hr:iy k X.A) (ha:PA X (e::es) t) (hg:Gl X x:=by rfl) (hdb:(x==("__debug__":Str))=false:=by decide+kernel)
  (he:starEach (e::es) X.env=(false,eval e X.env)::starEach es X.env:=by rfl) (hpl:(backTo pos (starEach es X.env)).any (·.1)=false:=by rfl):
  PE X (.Call (.Name x p) (e::es) [] pos) (M4 sp [] E0 t):=by
 £⟨f,fd,F,b,kp,m⟩:=h;§Ox F hr hg m kp b .nil pass0 ha hdb he hpl
end
theorem De {J:It} {fr:St} {tc:TT} {te:TE} {D:Addr} {H1:Hp} {Q:Hp→Prop} (n:Nat) (item:Nat→V) (P:Nat→List V→Prop) (hn:n < sizeLine) (hD:H1 D=none)
  (hgo:∀i H,i < n→ak H1 H→J.go i H) (hyld:∀i H x H',i < n→ak H1 H→J.yld i H x H'→H'=H∧x=item i) (hstop:∀H,ak H1 H→J.stop n H)
  (h0:P 0 [])
  (step:∀i ys H (G:Hp→Prop) (K':V→Hp→Prop),i < n→P i ys→ys.length≤i→ak H1 H→(∀H3,ak H H3→P (i+1) ys→G H3)→(∀y H4,ak H H4→P (i+1) (ys++[y])→K' y H4)→tc ([some (item i)]++fr) H λb H3=>if b=true then te ([some (item i)]++fr) H3 K' else G H3)
  (done:∀ys H,P n ys→ys.length≤n→ak H1 H→H D=some (.lst ys)→Q H):LC 1 fr (cj 0) tc te J D H1 Q:=by
 ¶⟨λi m H=>m=n - i∧i≤n∧∃ys,H D=some (.lst ys)∧P i ys∧ys.length≤i∧ak H1 H,⟨n,by simp,Nat.zero_le _,[],ae,h0,Nat.le_refl _,aa hD _⟩,?_⟩;rintro i m H ⟨rfl,hi,ys,hys,hP,hl,hS⟩;¦hlt:i < n
 ·¶.inr ⟨hgo i H hlt hS,λτ x H' hτ hy=>?_⟩;£⟨e1,e2⟩:=hyld i H x H' hlt hS hy;subst e1 e2;£⟨a,rfl⟩:∃a,τ=[a]:=List.length_eq_one_iff.mp hτ;¶⟨⟨[some (item i)],rfl,rfl⟩,step i ys H' (λH3=>∃m',m' < n - i∧m'=n - (i+1)∧i+1≤n∧∃ys,H3 D=some (.lst ys)∧P (i+1) ys∧ys.length≤i+1∧ak H1 H3)
   (λy H4=>∃zs,H4 D=some (.lst zs)∧zs.length < sizeLine∧∃m',m' < n - i∧m'=n - (i+1)∧i+1≤n∧∃ys,upd H4 D (.lst (zs++[y])) D=some (.lst ys)∧P (i+1) ys∧ys.length≤i+1∧ak H1 (upd H4 D (.lst (zs++[y])))) hlt hP hl hS (λH3 q1 q2=>?_) (λy H4 q1 q2=>?_)⟩
  ·§⟨n - (i+1),¥,rfl,hlt,ys,q1 _ _ hys,q2,Nat.le_succ_of_le hl,hS.trans q1⟩
  ·¶⟨ys,q1 _ _ hys,¥,n - (i+1),¥,rfl,hlt,ys++[y],ae,q2,?_,(hS.trans q1).upd hD _⟩;rw[List.length_append,List.length_singleton];¡
 ·¤e:i=n:=by ¡
  subst e;§.inl ⟨hstop H hS,done ys H hP hl hS hys⟩
theorem Qo {K:PySem.W.Frag} {a:Addr} {xs:List V} {fr:St} {tc:TT} {te:TE} {D:Addr} {H1:Hp} {Q:Hp→Prop} (P:Nat→List V→Prop) (hS:SqL K H1 a xs) (hn:xs.length < sizeLine) (hD:H1 D=none) (h0:P 0 [])
  (step:∀i x ys H (G:Hp→Prop) (K':V→Hp→Prop),xs[i]?=some x→P i ys→ys.length≤i→ak H1 H→(∀H3,ak H H3→P (i+1) ys→G H3)→(∀y H4,ak H H4→P (i+1) (ys++[y])→K' y H4)→tc ([some x]++fr) H λb H3=>if b=true then te ([some x]++fr) H3 K' else G H3)
  (done:∀ys H,P xs.length ys→ys.length≤xs.length→ak H1 H→H D=some (.lst ys)→Q H):LC 1 fr (cj 0) tc te (Itl K a) D H1 Q:=by
 ¤at':∀i,i < xs.length→xs[i]?=some (xs.getD i .non):=λi hi=>by
  rw[List.getD_eq_getElem?_getD,List.getElem?_eq_getElem hi];rfl
 §De xs.length (λi=>xs.getD i .non) P hn hD (λi H hi hs=>⟨xs,_,hs.seq hS,at' i hi⟩)
  (λi H x H' hi hs hy=>⟨hy.1,Option.some.inj ((hy.2 xs (hs.seq hS)).symm.trans (at' i hi))⟩) (λH hs=>⟨xs,hs.seq hS,Nat.le_refl _⟩) h0
  (λi ys H G K' hi hp hl hs hG hK=>step i _ ys H G K' (at' i hi) hp hl hs hG hK) done
theorem Dd {K:PySem.W.Frag} {a:Addr} {xs:List V} {fr:St} {tc:TT} {te:TE} {D:Addr} {H1:Hp} {Q:Hp→Prop} (P:Nat→List V→Prop) (hS:SqT K H1 a xs) (hn:xs.length < sizeLine) (hD:H1 D=none) (h0:P 0 [])
  (step:∀i x ys H (G:Hp→Prop) (K':V→Hp→Prop),xs[i]?=some x→P i ys→ys.length≤i→ak H1 H→(∀H3,ak H H3→P (i+1) ys→G H3)→(∀y H4,ak H H4→P (i+1) (ys++[y])→K' y H4)→tc ([some x]++fr) H λb H3=>if b=true then te ([some x]++fr) H3 K' else G H3)
  (done:∀ys H,P xs.length ys→ys.length≤xs.length→ak H1 H→H D=some (.lst ys)→Q H):LC 1 fr (cj 0) tc te (Itt K a) D H1 Q:=by
 ¤at':∀i,i < xs.length→xs[i]?=some (xs.getD i .non):=λi hi=>by
  rw[List.getD_eq_getElem?_getD,List.getElem?_eq_getElem hi];rfl
 §De xs.length (λi=>xs.getD i .non) P hn hD (λi H hi hs=>⟨xs,_,hs.tup hS,at' i hi⟩)
  (λi H x H' hi hs hy=>⟨hy.1,Option.some.inj ((hy.2 xs (hs.tup hS)).symm.trans (at' i hi))⟩) (λH hs=>⟨xs,hs.tup hS,Nat.le_refl _⟩) h0
  (λi ys H G K' hi hp hl hs hG hK=>step i _ ys H G K' (at' i hi) hp hl hs hG hK) done
theorem Jm {lo:Int} {n:Nat} {fr:St} {tc:TT} {te:TE} {D:Addr} {H1:Hp} {Q:Hp→Prop} (P:Nat→List V→Prop) (hn:n < sizeLine) (hD:H1 D=none) (h0:P 0 [])
  (step:∀(i:Nat) ys H (G:Hp→Prop) (K':V→Hp→Prop),i < n→P i ys→ys.length≤i→ak H1 H→(∀H3,ak H H3→P (i+1) ys→G H3)→(∀y H4,ak H H4→P (i+1) (ys++[y])→K' y H4)→tc ([some (.int (lo+i))]++fr) H λb H3=>if b=true then te ([some (.int (lo+i))]++fr) H3 K' else G H3)
  (done:∀ys H,P n ys→ys.length≤n→ak H1 H→H D=some (.lst ys)→Q H):LC 1 fr (cj 0) tc te (Itr lo n) D H1 Q:=
 De n (λi=>.int (lo+i)) P hn hD (λi H hi _=>hi) (λi H x H' hi hs hy=>hy) (λH hs=>Nat.le_refl _) h0 step done
end L2
namespace L2
open PySem PySem.Spec PyProof.Rows
section
variable {X:Cx} {x:Str} {pos:Pos}
theorem Qa {a:Addr} (hm:X.mg x=some (.ref a)) (hg:Gl X x:=by rfl) (hd:(x==("__debug__":Str))=false:=by decide+kernel):PE X (.Name x pos) (tC (.ref a)):=Nt hg hm rfl hd
theorem pe_gty {T:String} (hm:X.mg x=none) (hv:bootBuiltins x=some (.type T)) (hg:Gl X x:=by rfl) (hn:x≠"__name__":=by decide+kernel) (hd:(x==("__debug__":Str))=false:=by decide+kernel):PE X (.Name x pos) (tC (.ty T)):=Pb hg hm hv rfl hn hd
end
theorem cw:bootBuiltins "len"=some (.builtin "len"):=by decide+kernel
theorem dr:bootBuiltins "isinstance"=some (.builtin "isinstance"):=by decide+kernel
theorem b_bool:bootBuiltins "bool"=some (.type "bool"):=by decide+kernel
theorem um:bootBuiltins "int"=some (.type "int"):=by decide+kernel
theorem Gd:bootBuiltins "str"=some (.type "str"):=by decide+kernel
theorem Dt:bootBuiltins "list"=some (.type "list"):=by decide+kernel
theorem fc:bootBuiltins "tuple"=some (.type "tuple"):=by decide+kernel
theorem b_dict:bootBuiltins "dict"=some (.type "dict"):=by decide+kernel
theorem oz:bootBuiltins "sorted"=some (.builtin "sorted"):=by decide+kernel
end L2
namespace L2
open PySem PySem.Spec PyProof.Rows
theorem str_eq {a b:Str}:a=b↔a.cps.toList=b.cps.toList:=by
 constructor
 ·¿e;rw[e]
 ·¿e;cases a;cases b
  §congrArg Str.mk (Array.toList_inj.mp e)
theorem cxOf_K {CX:CXT} {P:Program} {w:World} {K:PySem.W.Frag} {mg:Str→Option Value} {base:Heap} {N:List Str} {qual:Str} {scope:Scope} {f:Addr} {cd:Value} {A:Around} {outer:List Env} {s:Shared} {H:Hp} {E:XK}:(sd CX P w K mg base N qual scope f cd A outer s H E).K=K:=rfl
theorem nox_K {X:Cx}:X.nox.K=X.K:=rfl
end L2
namespace L2
open PySem PySem.Spec PyProof.Rows
inductive zg:List Expr→List V→Prop where
 | nil:zg [] []
 | str {x:Str} {j:Nat} {pos:Pos} {es:List Expr} {vs:List V} (h:zg es vs):zg (.Constant (.str x) j pos::es) (.str x::vs)
 | int {i:Int} {j:Nat} {pos:Pos} {es:List Expr} {vs:List V} (h:zg es vs):zg (.Constant (.int i) j pos::es) (.int i::vs)
def tVals (vs:List V):TA:=λ_ H Q=>Q vs H
theorem Kl {X:Cx} {es:List Expr} {vs:List V} (h:zg es vs):PA X es (tVals vs):=by
 induction h with
 | nil=>§Lq
 | str _ ih=>§Ak K2 ih
 | int _ ih=>§Ak L3 ih
end L2
namespace L2
open PySem PySem.Spec PyProof.Rows
def Ez (g:TG) (tb:TS) (D:Ends) (J:It) (σ:St) (H1:Hp):Prop:=∃W:Nat→Nat→St→Hp→Prop,(∃m,W 0 m σ H1)∧∀i m σ H,W i m σ H→
 (J.stop i H∧D.nx σ H)∨(J.go i H∧∃N:St→Hp→Prop,(∀σ' H',N σ' H'→∃m',m' < m∧W (i+1) m' σ' H')∧∀x H',J.yld i H x H'→g x σ H' λσ2 H2=>tb { D with nx:=N,ct:=N,bk:=D.nx } σ2 H2)
theorem O8 (wi:TI) (g:TG) (tb:TS) (D:Ends) (σ:St) (H:Hp):tFor wi g tb D σ H=wi σ H λJ H1=>Ez g tb D J σ H1:=rfl
section
variable {K:PySem.W.Frag} {a:Addr} {xs:List V} {g:TG} {tb:TS} {D:Ends} {σ:St} {H:Hp}
theorem dg (Pv:Nat→St→Hp→Prop) (h0:Pv 0 σ H) (hl:∀i σ H,i≤xs.length→Pv i σ H→SqL K H a xs)
  (hs:∀i x σ H,xs[i]?=some x→Pv i σ H→g x σ H λσ2 H2=>tb { D with nx:=Pv (i+1),ct:=Pv (i+1),bk:=D.nx } σ2 H2) (hd:∀σ H,Pv xs.length σ H→D.nx σ H):Ez g tb D (Itl K a) σ H:=Km Pv h0 hl hs hd
theorem qd (Pv:Nat→St→Hp→Prop) (h0:Pv 0 σ H) (hl:∀i σ H,i≤xs.length→Pv i σ H→SqT K H a xs)
  (hs:∀i x σ H,xs[i]?=some x→Pv i σ H→g x σ H λσ2 H2=>tb { D with nx:=Pv (i+1),ct:=Pv (i+1),bk:=D.nx } σ2 H2) (hd:∀σ H,Pv xs.length σ H→D.nx σ H):Ez g tb D (Itt K a) σ H:=O6 Pv h0 hl hs hd
theorem fh {lo:Int} {n:Nat} (Pv:Nat→St→Hp→Prop) (h0:Pv 0 σ H)
  (hs:∀i σ H,i < n→Pv i σ H→g (.int (lo+i)) σ H λσ2 H2=>tb { D with nx:=Pv (i+1),ct:=Pv (i+1),bk:=D.nx } σ2 H2) (hd:∀σ H,Pv n σ H→D.nx σ H):Ez g tb D (Itr lo n) σ H:=Iz Pv h0 hs hd
end
end L2
namespace L2
open PySem PySem.Spec PyProof.Rows Builtin Builtin.Str
def ModD (w:World) (K:PySem.W.Frag) (a:Addr) (kvs:List (Key×V)):Prop:=
 (a==sysModules)=false∧∀(P:Program) (h:Heap),K.In h→∃vs,KV kvs vs∧h.DictOf (bj P w) a vs
abbrev Gf:=Int×Str×Tok×Int×Tok
noncomputable def siE (e:Gf):DictEntry:=⟨e.1,.str e.2.1 e.2.2.1,.int e.2.2.2.1 e.2.2.2.2⟩
theorem Bt (P:Program) (w:World):∀es:List Gf,Pairs (bj P w) (es.map siE) (es.map λe=>((Sum.inr e.2.1:Key),Value.int e.2.2.2.1 e.2.2.2.2))
 | []=>.nil
 | e::r=>.cons (kc P w e.2.1 e.2.2.1) rfl (Bt P w r)
theorem si_kv:∀es:List Gf,KV (es.map λe=>((Sum.inr e.2.1:Key),V.int e.2.2.2.1)) (es.map λe=>((Sum.inr e.2.1:Key),Value.int e.2.2.2.1 e.2.2.2.2))
 | []=>.nil
 | e::r=>.cons ⟨rfl,⟨_,rfl⟩⟩ (si_kv r)
theorem Pt {w:World} {K:PySem.W.Frag} {a:Addr} {ep:Nat} (es:List Gf) (hl:K.lookup a=some ⟨.type "dict",none,.dict (es.map siE).toArray ep,#[]⟩) (ha:(a==sysModules)=false)
  (hh:∀e∈es,e.1=hashStr w e.2.1) (nd:(es.map λe=>(Sum.inr e.2.1:Key)).Nodup):ModD w K a (es.map λe=>(Sum.inr e.2.1,V.int e.2.2.2.1)):=by
 ¶⟨ha,λP h hk=>⟨_,si_kv es,_,_,ep,hk a _ hl,⟨rfl,rfl,rfl⟩,rfl,λe he=>?_,by simpa using Bt P w es,?_⟩⟩
 ·¤he':e∈es.map siE:=List.mem_toArray.mp he;£⟨r,hr,rfl⟩:=List.mem_map.mp he';§⟨Sum.inr r.2.1,kc P w r.2.1 r.2.2.1,hh r hr⟩
 ·rw[List.map_map];§nd
section
variable {X:Cx} {a:Addr} {kvs:List (Key×V)}
def J0 (kvs:List (Key×V)) (ty tx:TE):TE:=λσ H Q=>ty σ H λy H2=>tx σ H2 λz H3=>∃k,y=kV k∧Q ((dh kvs k).getD z) H3
theorem Js {o e f:Expr} {apos cpos:Pos} {ty tx:TE} (ho:PE X o (tC (.ref a))) (md:ModD X.w X.K a kvs) (he:PE X e ty) (hf:PE X f tx) (m:M2 X o "get" apos e f cpos):PE X (.Call (.Attribute o "get" apos) [e,f] [] cpos) (J0 kvs ty tx):=by
 ¿pins s σ H Q I h;¶wpAny_Call_method m.base m.few m.line PySem.F.plainAttrs_dict PySem.F.slot_dict_get PySem.F.type_dict_get (thn (ho pins s σ H (λx H1=>x=.ref a∧H1=H) I ⟨rfl,rfl⟩) λu s1 ⟨x,H1,I1,rx,ex,eH⟩=>?_);subst ex eH;£rfl:u=Value.ref a:=rx;£⟨vs,rel,dd⟩:=md.2 X.prog _ I1.kIn;¶⟨dd.typeIs,λb q=>?_,?_⟩
 ·cases q
  £⟨ob,_,_,h1,h2,_⟩:=dd;§⟨ob,h1,h2.2.1⟩
 rw[m.trees];¶Calls.callWith_builtin rfl (Calls.evalArgs_plain (Calls.spliced_cons (thn (he pins s1 σ H1 _ I1 h) λiv s2 ⟨y,H2,I2,ry,q2⟩=>
  Calls.spliced_cons (thn (hf pins s2 σ H2 _ I2 q2) λfv s3 ⟨z,H3,I3,rz,k,ek,q3⟩=>Calls.spliced_nil ?_))))
 subst ek;£⟨vs',rel',dd'⟩:=md.2 X.prog _ I3.kIn;¶call_meetsIn PySem.F.slot_dict_get dd'.typeIs PySem.F.entry_dict_get (PySem.F.args_dict_get_3 _ _ _) (meets_dict_get_default (bj X.prog X.w) a (rg ry) md.1 fv) ⟨_,dd'.mapOf,⟨_,H3,I3.tok _,?_,q3⟩⟩;§(rel'.val k).getD rz
noncomputable def Gk:V→Str
 | .str z=>z
 | .int i=>(toString i:String)
 | _=>Str.empty
def wordV:V→Prop
 | .str _=>True
 | .int i=>i.natAbs.log2 < 1920
 | _=>False
theorem zt:gw X (.type "str") (λxs H Q=>∃x,xs=[x]∧wordV x∧Q (.str (Gk x)) H):=by
 ¿pins s σ H xs us Q I r h;£⟨x,rfl,hw,q⟩:=h;£⟨u,rfl,rx⟩:=vals1 r;cases x with
 | str z=>£⟨t,rfl⟩:=rx;§PySem.P.str_of_str ⟨.str z,H,I,⟨t,rfl⟩,q⟩
 | int i=>£⟨t,rfl⟩:=rx;§PySem.P.str_of_int hw ⟨.str _,H,I.tok _,⟨_,rfl⟩,q⟩
 | _=>§hw.elim
end
end L2
namespace L2
open PySem PySem.Spec PyProof.Rows
section
variable {X:Cx} (K:PySem.W.Frag) (hK:X.K=K)
include hK
theorem Au:IxR X (rIxL K):=by subst hK;§Ff
theorem Nx:IxR X (rIxT K):=by subst hK;§Kf
theorem nr:OpR X (compareOp .In) (rIn K false):=by subst hK;§yq
end
end L2
namespace L2
open PySem PySem.Spec PyProof.Rows
def tMid (t u:TS):TS:=λD σ H=>∃M:St→Hp→Prop,t { D with nx:=M } σ H∧∀σ' H',M σ' H'→u D σ' H'
theorem fb {t u:TS} {D:Ends} {σ:St} {H:Hp} (M:St→Hp→Prop) (h1:t { D with nx:=M } σ H) (h2:∀σ' H',M σ' H'→u D σ' H'):tMid t u D σ H:=⟨M,h1,h2⟩
section
variable {X:Cx} {st:Stmt} {rest:List Stmt} {t u:TS}
theorem Pz (h1:PS X st t) (h2:PSs X rest u):PSs X (st::rest) (tMid t u):=by
 ¿pins s σ H D I h;£⟨M,h,hM⟩:=h;¶wpAny_execs_cons (thn (h1 pins s σ H { D with nx:=M } I h) λf s1 q=>?_);cases f with
 | next=>
  £⟨σ',H',I',q⟩:=q;§h2 pins s1 σ' H' D I' (hM σ' H' q)
 | ret v=>§q
 | brk=>§q
 | cont=>§q
end
theorem Nc {K:PySem.W.Frag} {z:Str} {H:Hp}:tyV K "str" (.str z) H=True:=eq_true rfl
theorem av {K:PySem.W.Frag} {a:Addr} {xs:List V} {H:Hp} (h:H a=some (.lst xs)):tyV K "list" (.ref a) H:=.inl ⟨rfl,xs,SqL.of h⟩
theorem au {K:PySem.W.Frag} {H:Hp} {t:Addr} {xs:List V} {i:Int} {v:V} {Q:VK} (h:H t=some (.tup xs)) (hv:atI xs i=some v) (q:Q v H):rIxT K (.ref t) (.int i) H Q:=⟨t,xs,i,v,rfl,rfl,SqT.of h,hv,q⟩
theorem ao {K:PySem.W.Frag} {H:Hp} {t:Addr} {xs:List V} {i:Int} {v:V} {Q:VK} (h:H t=some (.lst xs)) (hv:atI xs i=some v) (q:Q v H):rIxL K (.ref t) (.int i) H Q:=⟨t,xs,i,v,rfl,rfl,SqL.of h,hv,q⟩
theorem Of {H:Hp} {a b:Addr} {xs ys:List V} {Q:VK} (h1:H a=some (.lst xs)) (h2:H b=some (.lst ys)) (hz:xs.length+ys.length≤sizeLine) (q:∀p,H p=none→Q (.ref p) (upd H p (.lst (xs++ys)))):rCat (.ref a) (.ref b) H Q:=⟨a,b,xs,ys,rfl,rfl,h1,h2,hz,q⟩
theorem O2 {H:Hp} {a:Addr} {x:V} {k:Int} {Q:VK} (h1:H a=some (.lst [x])) (h0:0≤k) (hk:k≤1000000) (q:∀p,H p=none→Q (.ref p) (upd H p (.lst (List.replicate k.toNat x)))):rRep (.ref a) (.int k) H Q:=by
 ¤sz:=sizeLine_eq;¶⟨a,k,[x],rfl,rfl,h1,¥,¥,by show 1*k.toNat≤sizeLine;¡,λp hp=>?_⟩;¤e:(List.replicate k.toNat [x]).flatten=List.replicate k.toNat x:=by
  induction k.toNat with
  | zero=>rfl
  | succ n ih=>rw[List.replicate_succ,List.flatten_cons,ih];rfl
 rw[e];§q p hp
theorem bb {K:PySem.W.Frag} {H:Hp} {l:Addr} {xs:List V} {y:V} {Q:VK} (h:H l=some (.lst xs)) (hz:xs.length < sizeLine) (q:Q .non (upd H l (.lst (xs++[y])))):tyV K "list" (.ref l) H∧qa (.ref l) [y] H Q:=
 ⟨av h,l,xs,y,rfl,rfl,h,hz,q⟩
end L2
namespace HT
open PySem PySem.Spec PyProof.Rows L2
section
variable {prog:Program} {w:World} {A:Around} {E:Value→Shared→Prop} {s:Shared}
theorem Mx {t b:Addr} {vs ws:List Value} {Q:Value→Shared→Prop} (ht:IsTup s.heap t vs.toArray) (hb:IsTup s.heap b ws.toArray) (hv:vs=[]) (h1:Q (.ref b) s):wpAny (model prog w) A (binaryOp .Add (.ref t) (.ref b)) Q E s:=by
 £⟨⟨cls,dd,data,sl⟩,ho,hc,n,hd⟩:=id ht;£⟨⟨cls2,dd2,data2,sl2⟩,ho2,hc2,n2,hd2⟩:=id hb;simp only at hc hd hc2 hd2;subst hc hd hc2 hd2;§concat_meets ⟨_,ho,rfl⟩ ⟨_,ho2,rfl⟩ noFill_tuple_add seq_tuple_add PySem.F.slot_tuple_add PySem.F.entry_tuple_add (PySem.F.args_tuple_add_2 _ _)
  (tuple_addW0 t b vs.toArray ws.toArray n n2 dd dd2 sl sl2 (by simp[hv])) ⟨ho,ho2,h1⟩
theorem ma {t sl:Addr} {items:Array Value} {vl vu:Value} {lo hi:Option Int} {Q:Value→Shared→Prop} (ht:IsTup s.heap t items) (hs:s.heap.IsSliceOf sl vl vu .none) (pl:IsPart vl lo) (pu:IsPart vu hi)
  (hw:sIx items.size 0 lo=0∧sIx items.size items.size hi=items.size) (h:Q (.ref t) s) (hsz:items.size≤sizeLine):wpAny (model prog w) A (getItem (.ref t) (.ref sl)) Q E s:=by
 £⟨os,hos,hcs,hds⟩:=id hs;¤hTs:s.TypeIs (.ref sl) "slice":=⟨os,hos,hcs⟩;unfold getItem;try with_reducible ¶wpAny_holding ?_
 first | ¶wpAny_bind (wpAny_pure ?_) | skip
 ¶wpAny_bind (wpAny_sequenceKey ht.typeIs (by decide) ?_);¶wpAny_bind (wpAny_callSpecial?_slot (name:=Str.ofString "__getitem__") ht.typeIs PyProof.Rows.slot_tuple_getitem
  (wpAny_call_entry PyProof.Rows.slot_tuple_getitem ht.typeIs entry_tuple_getitem ?_ (args_tuple_getitem _ _)))
 show wpAny _ _ (Builtin.Tuple.tupleItemsOf (.ref t) >>=_) _ _ s
 ¶wpAny_bind (tupleItemsOf_ ht ?_);¶wpAny_bind (wpAny_typeOf hTs ?_);rw[if_pos (by decide)];¶wpAny_bind (i8 hs pl pu ?_);¤hyes:((((sIx items.size 0 lo:Nat):Int)==0&&(1:Int)==1&&(sIx items.size items.size hi - sIx items.size 0 lo)==items.size)=true):=by
  rw[hw.1,hw.2];simp
 show wpAny _ _ (if (((sIx items.size 0 lo:Nat):Int)==0&&(1:Int)==1&&(sIx items.size items.size hi - sIx items.size 0 lo)==items.size)=true then _ else _) _ _ s
 rw[if_pos hyes];¶wpAny_bind ?_;show wpAny _ _ (typeOf (.ref t) >>=λv=>pure (v==.type "tuple")) _ _ s
 ¶wpAny_bind (wpAny_typeOf ht.typeIs (wpAny_pure ?_));rw[if_pos (by decide)];¶wpAny_bind (wpAny_rule ?_);first
  | §wpAny_bind (wpAny_pure (wpAny_pure ⟨_,rfl,wpAny_pure h⟩))
  | §wpAny_pure ⟨_,rfl,wpAny_pure h⟩
  | §wpAny_bind (wpAny_pure ⟨_,rfl,wpAny_pure h⟩)
end
end HT
namespace L2
open PySem PySem.Spec PyProof.Rows
section
variable {X:Cx}
def rCatU:R2:=λx y H Q=>∃a b xs ys,x=.ref a∧y=.ref b∧H a=some (.tup xs)∧H b=some (.tup ys)∧xs.length+ys.length≤sizeLine∧∀p H',ak H H'→H' p=some (.tup (xs++ys))→Q (.ref p) H'
theorem ua:OpR X (binaryOp .Add) rCatU:=by
 ¿pins s σ H x y v u Q I rx ry h;£⟨a,b,xs,ys,rfl,rfl,ha,hb,hz,q⟩:=h;¦hx:xs=[]
 ·subst hx;cases rx
  cases ry
  £⟨its,r1,p1,_⟩:=I.tuple (SqT.of ha);£⟨its2,r2,p2,_⟩:=I.tuple (SqT.of hb);§HT.Mx p1 p2 (r1.ug.mpr rfl) ⟨.ref b,H,I,rfl,q b H (ak.refl H) hb⟩
 ·¶Qm pins s σ H _ _ v u Q I rx ry ⟨a,b,xs,ys,rfl,rfl,SqT.of ha,SqT.of hb,hx,hz,λe=>?_,λ_ p hp=>q p _ (λc o h=>by rw[af (ag h hp)];§h) ae⟩;subst e;§q a H (ak.refl H) (by rw[List.append_nil];§ha)
theorem oq {H:Hp} {a b:Addr} {xs ys:List V} {Q:VK} (ha:H a=some (.tup xs)) (hb:H b=some (.tup ys)) (hz:xs.length+ys.length≤sizeLine) (q:∀p H',ak H H'→H' p=some (.tup (xs++ys))→Q (.ref p) H'):rCatU (.ref a) (.ref b) H Q:=⟨a,b,xs,ys,rfl,rfl,ha,hb,hz,q⟩
def rSlU:V→Option Int→Option Int→Hp→VK→Prop:=λx lo hi H Q=>∃a xs,x=.ref a∧H a=some (.tup xs)∧∀p H',ak H H'→H' p=some (.tup (cn xs lo hi))→Q (.ref p) H'
theorem Ji {xs:List V} {lo hi:Option Int} (h:HT.sIx xs.length 0 lo=0∧HT.sIx xs.length xs.length hi=xs.length):cn xs lo hi=xs:=by
 unfold cn;rw[h.1,h.2,List.drop_zero,Nat.sub_zero,List.take_length]
theorem ik:SlR X rSlU:=by
 ¿pins s σ H x v vl vu lo hi sl Q I rx hs pl pu h;£⟨a,xs,rfl,ha,q⟩:=h;¦hw:HT.sIx xs.length 0 lo=0∧HT.sIx xs.length xs.length hi=xs.length
 ·cases rx
  £⟨its,r,ht,hz⟩:=I.tuple (SqT.of ha);¤hlen:its.toArray.size=xs.length:=by rw[List.size_toArray];§r.length.symm
  §⟨"tuple",_,PyProof.Rows.slot_tuple_getitem.lookup,ht.typeIs,HT.ma ht hs pl pu (by rw[hlen];§hw) ⟨.ref a,H,I,rfl,q a H (ak.refl H) (by rw[Ji hw];§ha)⟩ (by rw[hlen];§hz)⟩
 ·§sl_tup pins s σ H _ v vl vu lo hi sl Q I rx hs pl pu ⟨a,xs,rfl,SqT.of ha,hw,λp hp=>q p _ (λc o h=>by rw[af (ag h hp)];§h) ae⟩
theorem Oz {H:Hp} {a:Addr} {xs:List V} {lo hi:Option Int} {Q:VK} (ha:H a=some (.tup xs)) (q:∀p H',ak H H'→H' p=some (.tup (cn xs lo hi))→Q (.ref p) H'):rSlU (.ref a) lo hi H Q:=⟨a,xs,rfl,ha,q⟩
theorem Ad (k:Key):ij (kV k)=true:=by cases k <;> rfl
theorem eqV_kV (a b:Key):eqV (kV a) (kV b)=decide (a=b):=by
 cases a <;> cases b <;> simp[eqV,kV] <;> §Bool.beq_eq_decide_eq _ _
theorem Bl {as bs:List Key} (hl:as.length=bs.length):((List.range as.length).all λj=>decide (as[j]?=bs[j]?))=decide (as=bs):=by
 rw[Bool.eq_iff_iff,List.all_eq_true,decide_eq_true_eq];constructor
 ·¿h;apply List.ext_getElem?
  ¿j;¦hj:j < as.length
  ·§of_decide_eq_true (h j (List.mem_range.mpr hj))
  ·rw[List.getElem?_eq_none_iff.mpr ¥,List.getElem?_eq_none_iff.mpr ¥]
 ·¿h j _;rw[h];§decide_eq_true rfl
theorem qi {A:Around} {s:Shared} {as bs:List Key} {us ws:List Value} (r1:Vals (as.map kV) us) (r2:Vals (bs.map kV) ws) (j:Nat) (h1:j < us.toArray.size) (h2:j < ws.toArray.size):
  SeqAt.EqAt A s us.toArray[j] ws.toArray[j] (decide (as[j]?=bs[j]?)):=by
 ¤l1:=r1.length;¤l2:=r2.length;rw[List.length_map] at l1 l2;¤j1:j < as.length:=by rw[l1];simpa using h1
 ¤j2:j < bs.length:=by rw[l2];simpa using h2
 £⟨u,hu,ru⟩:=r1.get (i:=j) (x:=kV as[j]) (by rw[List.getElem?_map,List.getElem?_eq_getElem j1];rfl);£⟨w,hw,rw'⟩:=r2.get (i:=j) (x:=kV bs[j]) (by rw[List.getElem?_map,List.getElem?_eq_getElem j2];rfl);¤e1:us.toArray[j]=u:=by
  have:us[j]'(by simpa using h1)=u:=by rw[List.getElem?_eq_getElem (by simpa using h1)] at hu;§Option.some.inj hu
  simpa using this
 ¤e2:ws.toArray[j]=w:=by
  have:ws[j]'(by simpa using h2)=w:=by rw[List.getElem?_eq_getElem (by simpa using h2)] at hw;§Option.some.inj hw
  simpa using this
 rw[e1,e2,List.getElem?_eq_getElem j1,List.getElem?_eq_getElem j2];¤e3:decide (some as[j]=some bs[j])=eqV (kV as[j]) (kV bs[j]):=by
  rw[eqV_kV];apply decide_eq_decide.mpr
  §⟨λh=>Option.some.inj h,λh=>by rw[h]⟩
 rw[e3];§Ku ru rw' (Ad _) (Ad _)
def rEqK (K:PySem.W.Frag) (neg:Bool):R2:=λx y H Q=>∃a b as bs,x=.ref a∧y=.ref b∧((SqT K H a (List.map kV as)∧SqT K H b (List.map kV bs))∨(SqL K H a (List.map kV as)∧SqL K H b (List.map kV bs)))∧Q (.bl (if neg then !decide (as=bs) else decide (as=bs))) H
theorem op_neK (hu:X.A.units < cLine):OpR X (compareOp .NotEq) (rEqK X.K true):=by
 ¿pins s σ H x y v u Q I rx ry h;£⟨a,b,as,bs,rfl,rfl,hd,q⟩:=h;cases rx
 cases ry
 rcases hd with ⟨ha,hb⟩ | ⟨ha,hb⟩
 ·£⟨its,r1,p1,_⟩:=I.tuple ha;£⟨its2,r2,p2,_⟩:=I.tuple hb;¤l1:=r1.length;¤l2:=r2.length;rw[List.length_map] at l1 l2;¶SeqAt.RcNeAt.tuples (show s.heap.IsTuple a its.toArray from p1) (show s.heap.IsTuple b its2.toArray from p2) hu (λj h1 h2=>qi r1 r2 j h1 h2) _ _ _ _ ?_;¶bh I q ?_;show (!decide (as=bs))=_
  rw[List.size_toArray,List.size_toArray,←l1,←l2];¦hl:as.length=bs.length
  ·rw[←hl,Nat.min_self,Bl hl];simp
  ·have:¬as=bs:=λe=>hl (by rw[e]);simp[this,hl]
 ·£⟨its,r1,p1,_⟩:=I.list ha;£⟨its2,r2,p2,_⟩:=I.list hb;¤l1:=r1.length;¤l2:=r2.length;rw[List.length_map] at l1 l2;¦hl:as.length=bs.length
  ·¶SeqAt.RcNeAt.lists p1.isList p2.isList (by rw[List.size_toArray,List.size_toArray,←l1,←l2,hl]) hu (λj h1 h2=>qi r1 r2 j h1 h2) _ _ _ _ ?_;¶bh I q ?_;show (!decide (as=bs))=_
   rw[List.size_toArray,←l1,Bl hl]
  ·¶SeqAt.RcNeAt.lists_lengths p1.isList p2.isList (by rw[List.size_toArray,List.size_toArray,←l1,←l2];simpa using hl) hu _ _ _ _ ?_;¶bh I q ?_;show (!decide (as=bs))=_
   rw[decide_eq_false λe=>hl (by rw[e])];rfl
end
section
variable {X:Cx} {k:Nat} {ps:List Str} {sp:Sp} {x:Str} {p pos:Pos} {e:Expr} {es:List Expr} {t:TA}
def FnV (P:Program) (w:World) (K:PySem.W.Frag) (mg:Str→Option Value) (base:Heap) (k:Nat) (ps:List Str) (sp:Sp) (v:V):Prop:=
 ∃(f:Addr) (fd:FuncData),v=.ref f∧qc P w K mg base CX0 k f fd ps sp∧Binds K fd ps []∧PySem.W.keepIn K (.ref f)=true
def tCallV (P:Program) (w:World) (K:PySem.W.Frag) (mg:Str→Option Value) (base:Heap) (k:Nat) (ps:List Str) (i:Nat) (t:TA):TE:=λσ H Q=>∃v sp,σ[i]?=some (some v)∧FnV P w K mg base k ps sp v∧t σ H λvs H1=>sp vs H1 Q E0
end
end L2
namespace L2
open PySem PySem.Spec PyProof.Rows
noncomputable def Itv (K:PySem.W.Frag) (a:Addr) (n:Nat):It:=
 ⟨λi H=>i < n∧∃xs,SqL K H a xs∧xs.length=n,λi H x H'=>H'=H∧∀xs,SqL K H a xs→xs[n - 1 - i]?=some x,λi H=>i=n⟩
theorem Ma {P:Program} {w:World} {K:PySem.W.Frag} {tg:Expr} (a it:Addr) (n:Nat):Turn P w K tg (Itv K a n) [it] it (λi h=>i≤n∧h.IsRevIter it a ((n:Int) - 1 - (i:Int))) where
 mem:=by simp
 obj:=λi h st b hb=>by
  ¤e:b=it:=by simpa using hb
  subst e;£⟨_,o,e,c,d⟩:=st;§⟨o,e,λv z=>by rw[d] at z;cases z⟩
 keep:=λi h h' st k=>⟨st.1,st.2.at λo e=>k it (by simp) o e⟩
 item:=by
  ¿X hP hw hK hc i pins s σ H E I hf st hg;subst hP hw hK;£⟨hi,xs,hq,hn⟩:=hg;¤hx:xs[n - 1 - i]?=some (xs[n - 1 - i]'¥):=List.getElem?_eq_getElem ¥;£⟨its,rv,p,hz⟩:=I.list hq;£⟨u,hu,ru⟩:=rv.get hx;£⟨f0,f1,f2,f3,f4,f5⟩:=hf it (by simp);¤e:(n:Int) - 1 - (i:Int)=((n - 1 - i:Nat):Int):=by ¡
  ¤st2:=st.2;rw[e] at st2;¶wpAny_pyNext_rev_item st2 p.isList (x:=u) (by simpa using hu) λh' st' sb=>?_;¤e2:((n - 1 - i:Nat):Int) - 1=(n:Int) - 1 - ((i+1:Nat):Int):=by ¡
  rw[e2] at st';¤I1:Inv X pins σ H { s with heap:=h' }:=I.turned (t':=s.toks) (λb o hb e=>(sb.2 b hb).trans e) f0 f1 f3 f4 f5;£⟨o,e,c,d⟩:=id st';§⟨u,rfl,xv (s:={ s with heap:=h' }) e c d (by decide) ⟨_,H,I1,ru,⟨rfl,λys hy=>by rw[I.vh hy hq];§hx⟩,⟨hi,st'⟩,λb hb=>(hf b hb).1⟩⟩
 done:=by
  ¿X hP hw hK hc i pins s σ H E I hf st hg;subst hP hw hK;£⟨f0,f1,f2,f3,f4,f5⟩:=hf it (by simp);¤hg:i=n:=hg;subst hg;¤e:(i:Int) - 1 - (i:Int)=-1:=by ¡
  ¤st2:=st.2;rw[e] at st2;§wpAny_pyNext_rev_end (I.ok.hd hc) st2 λh' eb=>⟨rfl,I.turned (t':=s.toks) (λb o hb e=>eb b o hb e) f0 f1 f3 f4 f5⟩
 self:=λ_ _ _ _ _ st h=>wpAny_pyIter_revIter st.2 h
def iRev (K:PySem.W.Frag) (ta:TA):TI:=λσ H R=>ta σ H λvs H1=>∃a xs,vs=[.ref a]∧SqL K H1 a xs∧R (Itv K a xs.length) H1
theorem Dx:bootBuiltins "reversed"=some (.type "reversed"):=by decide+kernel
section
variable {X:Cx} {tg:Expr}
theorem pi_rev {a:Expr} {ta:TA} {p pos:Pos} (hg:Gl X "reversed") (hm:X.mg "reversed"=none) (ha:PA X [a] ta) (hs:starEach [a] X.env=[(false,eval a X.env)]:=by rfl):PI X tg (.Call (.Name "reversed" p) [a] [] pos) (iRev X.K ta):=by
 ¿pins s σ H R I h;¶Call_ (jq I hg hm Dx (PyProof.Rows.callWith_type1 (thn (ha pos pins s σ H _ I h) λus s1 ⟨vs,H1,I1,r1,q1⟩=>?_) hs rfl));£⟨l,xs,e,hq,q⟩:=q1;subst e;cases r1 with
 | cons r rr=>
  cases rr
  cases (show _=Value.ref l from r)
  £⟨its,rv,pl,hz⟩:=I1.list hq;¶call_reversed_list pl.isList ?_;¤hlen:((its.toArray.size:Nat):Int) - 1=(xs.length:Int) - 1 - ((0:Nat):Int):=by
   rw[List.size_toArray,←rv.length];¡
  ¤st:Heap.IsRevIter (s1.heap.push (revObj l ((its.toArray.size:Int) - 1))) s1.heap.objs.size l ((xs.length:Int) - 1 - ((0:Nat):Int)):=by
   rw[←hlen];§⟨_,Heap.get?_push_size _ rfl,rfl,rfl⟩
  ¶wpAny_pyIter_revIter st ?_;¶⟨s1.heap.objs.size,[s1.heap.objs.size],_,_,H1,rfl,I1.kept (t':=s1.toks) λb o e=>Heap.get?_push_of_some _ e,Ma l _ xs.length,⟨Nat.zero_le _,st⟩,λb hb=>?_,q⟩;¤e:b=s1.heap.objs.size:=by simpa using hb
  subst e;§I1.xc (Nat.le_refl _) (I1.hok.fresh (Nat.le_refl _))
end
theorem M6 {K:PySem.W.Frag} {a:Addr} {xs:List V} {g:TG} {tb:TS} {D:Ends} {σ:St} {H:Hp} (Pv:Nat→St→Hp→Prop) (h0:Pv 0 σ H) (hl:∀i σ H,i≤xs.length→Pv i σ H→SqL K H a xs)
  (hs:∀i x σ H,i < xs.length→xs[xs.length - 1 - i]?=some x→Pv i σ H→g x σ H λσ2 H2=>tb { D with nx:=Pv (i+1),ct:=Pv (i+1),bk:=D.nx } σ2 H2) (hd:∀σ H,Pv xs.length σ H→D.nx σ H):Ez g tb D (Itv K a xs.length) σ H:=by
 ¶⟨λi m σ H=>m=xs.length - i∧i≤xs.length∧Pv i σ H,⟨xs.length,by simp,Nat.zero_le _,h0⟩,?_⟩;rintro i m σ H ⟨rfl,hi,p⟩;¤q:=hl i σ H hi p;¦hlt:i < xs.length
 ·¶.inr ⟨⟨hlt,xs,q,rfl⟩,Pv (i+1),λσ' H' p'=>⟨xs.length - (i+1),¥,rfl,hlt,p'⟩,λx H' y=>?_⟩;£⟨e,y⟩:=y;subst e;§hs i x σ _ hlt (y xs q) p
 ·¤e:i=xs.length:=by ¡
  subst e;§.inl ⟨rfl,hd σ H p⟩
end L2
namespace L2
open PySem PySem.Spec PyProof.Rows
section
variable {CX:CXT} {P:Program} {w:World} {K:PySem.W.Frag} {mg:Str→Option Value} {base:Heap} {N:List Str} {qual:Str} {scope:Scope} {f:Addr} {cd:Value} {A:Around} {outer:List Env} {s:Shared} {H:Hp} {E:XK}
theorem cxOf_P:(sd CX P w K mg base N qual scope f cd A outer s H E).prog=P:=rfl
theorem cxOf_w:(sd CX P w K mg base N qual scope f cd A outer s H E).w=w:=rfl
theorem Oj:(sd CX P w K mg base N qual scope f cd A outer s H E).mg=mg:=rfl
theorem cxOf_b:(sd CX P w K mg base N qual scope f cd A outer s H E).base=base:=rfl
end
theorem Ac {K:PySem.W.Frag} {H:Hp} {l:Addr} {xs:List V} {y:V} {Q:VK} (h:H l=some (.lst (xs++[y]))) (q:Q y (upd H l (.lst xs))):tyV K "list" (.ref l) H∧rPop (.ref l) [] H Q:=
 ⟨av h,l,xs++[y],y,rfl,rfl,h,by rw[List.length_append,List.length_singleton,Nat.add_sub_cancel,List.getElem?_append_right (Nat.le_refl _),Nat.sub_self];rfl,by rw[List.dropLast_concat];§q⟩
end L2
namespace L2.Srt
open PySem PySem.W PyProof.Rows
section
variable {cmp:Nat→Nat→(Bool→Shared→Prop)→Shared→Prop} {N:Nat} {r:Nat→Int} {s:Shared}
def Cmp (cmp:Nat→Nat→(Bool→Shared→Prop)→Shared→Prop) (N:Nat) (r:Nat→Int) (s:Shared):Prop:=∀i j C,i < N→j < N→C (decide (r i < r j)) s→cmp i j C s
noncomputable def R (r:Nat→Int) (p:Array Nat) (i:Nat):Int:=r (p.getD i 0)
end
end L2.Srt
namespace L2.Srt
open PySem PySem.W PyProof.Rows
noncomputable def de (h:Heap) (a:Addr) (vs:List Value):Heap:=((h.update a (Obj.mapSeq λ_=>#[])).push (seqObj "tuple" vs.toArray 0)).push (seqObj "list" #[] 0)
section
variable {prog:Program} {w:World} {A:Around} {E:Value→Shared→Prop} {s:Shared} {r:Nat→Int}
theorem Bd {l:Addr} {vs:List Value} {Q:List Value→Shared→Prop} (hl:s.heap.IsTuple l vs.toArray)
  (h:Q vs { s with heap:=(s.heap.push (seqObj "list" #[] 0)).update s.heap.objs.size (Obj.mapSeq (·++vs.toArray)) }) (hsz:vs.length≤sizeLine):
  wpAny (model prog w) A (collect (.ref l)) Q E s:=by
 £⟨o,ho,hc,n,hd⟩:=id hl;unfold collect;¶wpAny_bind (wpAny_runValue (codeAny_builtin entry_proto_collect' ?_));show wpAny _ _ (do again (.builtin "list.__iadd__" ⟨[←newList [],.ref l],[]⟩)) _ _ s
 ¶wpAny_bind (wpAny_newList (wpAny_pure ⟨Code.quiet_builtin _ (by decide+kernel),codeAny_builtin entry_list_iadd' ?_⟩));show wpAny _ _ (Builtin.List.listExtendWith (.ref s.heap.objs.size) (.ref l) (.ref s.heap.objs.size)) _ _ { s with heap:=s.heap.push (seqObj "list" #[] 0) }
 unfold Builtin.List.listExtendWith;¤ho':(s.heap.push (seqObj "list" #[] 0)).get? l=some o:=Heap.get?_push_of_some _ ho;¶wpAny_bind (wpAny_typeOf (T:="tuple") ⟨o,ho',hc⟩ ?_);¤ht:(Value.type "tuple"==Value.type "tuple")=true:=by rfl
 rw[if_pos (by rw[ht];simp)];¶wpAny_bind (listItems_at ho' hd ?_);¶wpAny_bind (listItems_at (xs:=#[]) (n:=0) (Heap.get?_push_size _ rfl) rfl ?_);rw[if_neg (by simp)];¶wpAny_bind (listUpdate_at (xs:=#[]) (n:=0) (Heap.get?_push_size _ rfl) rfl ?_ (Nat.zero_le _) (by show (#[]++vs.toArray).size≤sizeLine+1;simp only[Array.size_append,List.size_toArray,List.length_nil];¡));¶wpAny_pure ?_;show wpAny (model prog w) A (do
   let o ←load s.heap.objs.size
   match o.data with
   | .seq xs _=>pure xs.toList
   | _=>unsupported "internal:collect") Q E { s with heap:=(s.heap.push (seqObj "list" #[] 0)).update s.heap.objs.size (Obj.mapSeq (·++vs.toArray)) }
 ¶wpAny_bind (wpAny_load (get?_update_seq (Heap.get?_push_size _ rfl) _) ?_);show wpAny _ _ (pure ((#[]:Array Value)++vs.toArray).toList) Q E _
 rw[show ((#[]:Array Value)++vs.toArray).toList=vs by simp];§wpAny_pure h
noncomputable def eh (h:Heap) (vs:List Value):Heap:=((h.push (seqObj "list" #[] 0)).update h.objs.size (Obj.mapSeq (·++vs.toArray))).push (seqObj "list" vs.toArray 0)
end
end L2.Srt
namespace L2
open PySem PySem.Spec PyProof.Rows Srt
def En (P:Program) (w:World) (A:Around) (H:Hp) (ys:List V) (rk:Nat→Int):Prop:=
 ∀(s:Shared) (vs:List Value),HOk P w H s.heap→Vals ys vs→2≤vs.length→wpAny (model P w) A (keyKind' vs.toArray) (λκ s'=>s'=s∧Cmp (PySem.W.kas_ask P w A κ vs) vs.length rk s) (λ_ _=>False) s
theorem Nr {h:Heap} {vs:List Value} {b:Addr} {o:Obj} (hb:h.get? b=some o):(de (eh h vs) (h.objs.size+1) vs).get? b=some o:=by
 ¤hlt:b < h.objs.size:=Heap.lt_size hb;¤hsz:(eh h vs).objs.size=h.objs.size+2:=by unfold eh;rw[size_push',Heap.size_update,size_push']
 unfold de;rw[Heap.get?_push_ne _ _ _ (by rw[size_push',Heap.size_update,hsz];§Nat.ne_of_lt (Nat.lt_of_lt_of_le hlt ¥)),Heap.get?_push_ne _ _ _ (by rw[Heap.size_update,hsz];§Nat.ne_of_lt (Nat.lt_of_lt_of_le hlt ¥)),Heap.get?_update_ne _ _ _ _ (Nat.ne_of_lt (Nat.lt_of_lt_of_le hlt ¥))];unfold eh;rw[Heap.get?_push_ne _ _ _ (by rw[Heap.size_update,size_push'];§Nat.ne_of_lt (Nat.lt_of_lt_of_le hlt ¥)),Heap.get?_update_ne _ _ _ _ (Nat.ne_of_lt hlt),Heap.get?_push_ne _ _ _ (Nat.ne_of_lt hlt)];§hb
theorem qm {ys:List V} {vs:List Value} (r:Vals ys vs):∀(is:List Nat),(∀i∈is,i < ys.length)→Vals (is.map λi=>ys.getD i .non) (is.map λi=>vs.getD i Value.none)
 | [],_=>.nil
 | i::is,h=>by
  ¤hi:=h i List.mem_cons_self;£⟨u,hu,ru⟩:=r.get (List.getElem?_eq_getElem hi);¶.cons ?_ (qm r is λj hj=>h j (List.mem_cons_of_mem _ hj));¤e1:ys.getD i .non=ys[i]:=by rw[List.getD_eq_getElem?_getD,List.getElem?_eq_getElem hi];rfl
  ¤e2:vs.getD i Value.none=u:=by rw[List.getD_eq_getElem?_getD,hu];rfl
  show RelV (ys.getD i .non) (vs.getD i Value.none)
  rw[e1,e2];§ru
section
variable {X:Cx}
end
end L2
namespace PySem.SeqAt
open PySem PySem.Spec PySem.Calls
def LtAt (A:Around) (s:Shared) (x y:Value) (b:Bool):Prop:=∀(prog:Program) (w:World) (E:Value→Shared→Prop) (Q:Value→Shared→Prop),Q (.bool b) s→wpAny (model prog w) A (richCompare .Lt x y) Q E s
section
variable {A:Around} {s:Shared}
theorem LtAt.str {x y:Str} {t u:Tok}:LtAt A s (.str x t) (.str y u) (decide (x.cps.toList < y.cps.toList)):=λprog w E Q h=>by
 ¶wpAny_richCompare_same (T:="str") (id:="str.__lt__") (op:=.Lt) (typeIs_str s x t) (typeIs_str s y u) PyProof.Rows.slot_str_lt (PyProof.Rows.call_str_lt ?_);§⟨(λx=>nomatch x),h⟩
end
end PySem.SeqAt
namespace L2
open PySem PySem.Spec PyProof.Rows Srt
theorem yo {α:Type} {p q:α→Bool}:∀{l:List α},(∀x∈l,p x=true→q x=true)→(∃x∈l,q x=true∧p x=false)→l.countP p < l.countP q
 | [],_,h=>by £⟨x,hx,_⟩:=h;cases hx
 | a::t,hm,h=>by
  rw[List.countP_cons,List.countP_cons];¤mono:=List.countP_mono_left (l:=t) (λx hx=>hm x (List.mem_cons_of_mem _ hx));¤ha:=hm a List.mem_cons_self;¦hw:q a=true∧p a=false
  ·rw[hw.1,hw.2];simp;¡
  ·have:∃x∈t,q x=true∧p x=false:=by
    £⟨x,hx,hq⟩:=h;rcases List.mem_cons.mp hx with rfl | hx
    ·§absurd hq hw
    ·§⟨x,hx,hq⟩
   ¤ih:=yo (λx hx=>hm x (List.mem_cons_of_mem _ hx)) this;cases hp:p a with
   | true=>rw[ha hp];simp;¡
   | false=>cases q a <;> simp <;> ¡
noncomputable def rank (n:Nat) (lt:Nat→Nat→Bool) (i:Nat):Int:=(((List.range n).countP λk=>lt k i:Nat):Int)
structure Ord (n:Nat) (lt:Nat→Nat→Bool):Prop where
 irr:∀i,i < n→lt i i=false
 tr:∀i j k,i < n→j < n→k < n→lt i j=true→lt j k=true→lt i k=true
 neg:∀i j k,i < n→j < n→k < n→lt i k=true→lt i j=true∨lt j k=true
theorem Ord.rank {n:Nat} {lt:Nat→Nat→Bool} (o:Ord n lt) {i j:Nat} (hi:i < n) (hj:j < n):decide (rank n lt i < rank n lt j)=lt i j:=by
 cases h:lt i j with
 | true=>
  apply decide_eq_true
  have:(List.range n).countP (λk=>lt k i) < (List.range n).countP λk=>lt k j:=yo (λk hk e=>o.tr k i j (List.mem_range.mp hk) hi hj e h) ⟨i,List.mem_range.mpr hi,h,o.irr i hi⟩;unfold L2.rank;¡
 | false=>
  apply decide_eq_false
  have:(List.range n).countP (λk=>lt k j)≤(List.range n).countP λk=>lt k i:=List.countP_mono_left λk hk e=>by
   rcases o.neg k i j (List.mem_range.mp hk) hi hj e with e | e
   ·§e
   ·rw[h] at e;cases e
  unfold L2.rank;¡
noncomputable def ltS (x y:Str):Bool:=decide (x.cps.toList < y.cps.toList)
theorem lg (x:Str):ltS x x=false:=decide_eq_false (List.lt_irrefl _)
theorem vi {x y z:Str} (h1:ltS x y=true) (h2:ltS y z=true):ltS x z=true:=decide_eq_true (List.lt_trans (of_decide_eq_true h1) (of_decide_eq_true h2))
theorem zz (x y:Str):ltS x y=true∨x=y∨ltS y x=true:=by
 ¦h1:x.cps.toList < y.cps.toList
 ·§.inl (decide_eq_true h1)
 ¦h2:y.cps.toList < x.cps.toList
 ·§.inr (.inr (decide_eq_true h2))
 §.inr (.inl (str_eq.mpr (List.le_antisymm (List.not_lt.mp h2) (List.not_lt.mp h1))))
theorem Gv {x z:Str} (y:Str) (h:ltS x z=true):ltS x y=true∨ltS y z=true:=by
 rcases zz x y with e | e | e
 ·§.inl e
 ·subst e;§.inr h
 ·§.inr (vi e h)
section
variable {P:Program} {w:World} {A:Around} {H:Hp}
theorem L7 {zs:List Str}:En P w A H (zs.map V.str) (rank zs.length λi j=>ltS (zs.getD i "") (zs.getD j "")):=by
 ¿s vs hok r h2;¤hlen:=r.length;rw[List.length_map] at hlen;¤at':∀i,i < zs.length→∃t,vs.getD i Value.none=.str (zs.getD i "") t:=λi hi=>by
  £⟨u,hu,t,rfl⟩:=r.get (i:=i) (x:=.str (zs.getD i "")) (by rw[List.getElem?_map,List.getElem?_eq_getElem hi,List.getD_eq_getElem?_getD,List.getElem?_eq_getElem hi];rfl);§⟨t,by rw[List.getD_eq_getElem?_getD,hu];rfl⟩
 ¤o:Ord zs.length λi j=>ltS (zs.getD i "") (zs.getD j ""):=⟨λ_ _=>lg _,λ_ _ _ _ _ _ a b=>vi a b,λ_ j _ _ _ _ a=>Gv _ a⟩;¤sa:StrsAre vs (vs.map strOf):=strsAre_map vs λv hv=>by
  £⟨i,hi,e⟩:=List.mem_iff_getElem.mp hv;£⟨t,et⟩:=at' i ¥;rw[List.getD_eq_getElem?_getD,List.getElem?_eq_getElem hi] at et;§⟨_,t,by rw[←e];§et⟩
 £⟨v₁,v₂,rest,rfl⟩:∃v₁ v₂ rest,vs=v₁::v₂::rest:=by
  match vs,h2 with
  | v₁::v₂::rest,_=>§⟨v₁,v₂,rest,rfl⟩
 rw[keyKind_strs sa];¶wpAny_pure ⟨rfl,λi j C hi hj hC=>?_⟩;£⟨t,e1⟩:=at' i ¥;£⟨u,e2⟩:=at' j ¥;show wpAny (model P w) A (keyLt' oneType' _ _) C _ s
 rw[e1,e2];¶PySem.W.kas_lt_str ?_;rw[o.rank ¥ ¥] at hC;§hC
end
end L2
namespace L2
open PySem PySem.Spec PyProof.Rows
def K8:V→List V→Hp→VK→Prop:=λx xs H Q=>∃a y z o,x=.ref a∧xs=[y,z]∧jz H a y o∧Q (o.getD z) H
section
variable {X:Cx}
theorem K4 (hu:X.A.units+1 < cLine):MtR X "dict.get" K8:=by
 ¿pins s σ H x xs v us Q I rx r h;£⟨a,y,z,o,rfl,rfl,g,q⟩:=h;cases (show v=Value.ref a from rx)
 cases r with
 | cons ry rr=>
  cases rr with
  | cons rz rr=>
   cases rr
   rename_i u1 u2
   rcases g with ⟨kvs,k,e,ey,l⟩ | ⟨kvs,k,b,e,ey,eb,l⟩
   ·subst ey;£⟨_,hd,vs,rel,dd⟩:=xt I.hok e;¶call_meetsIn PySem.F.slot_dict_get dd.typeIs PySem.F.entry_dict_get (PySem.F.args_dict_get_3 _ _ _) (meets_dict_get_default (bj X.prog X.w) a (rg ry) hd u2) ⟨_,dd.mapOf,⟨_,H,I.tok _,?_,q⟩⟩;rw[l];§m5.getD (rel.val k) rz
   ·subst ey;cases (show u1=Value.ref b from ry)
    £⟨_,hd,xs,rel,dd⟩:=ym I.hok e;¤rv:=rel.val k;rw[←l] at rv;¶wpAny_call_entry PySem.F.slot_dict_get dd.typeIs PySem.F.entry_dict_get ?_ (PySem.F.args_dict_get_3 _ _ _);show wpAny _ _ (dictGet a (.ref b) >>=_) _ _ s
    ¶wpAny_bind (wpAny_dictGet_heap (tupleKind_room_in1 hu) (mf I.hok eb) dd ?_);¤g:=m5.getD rv rz;cases hf:atKey xs k with
    | some p=>
     rw[hf] at g;§wpAny_pure ⟨p.2,rfl,⟨_,H,I.tok _,g,q⟩⟩
    | none=>
     rw[hf] at g;show wpAny _ _ (Builtin.Dict.missed a (.ref b) >>=_) _ _ _
     §wpAny_bind (wpAny_missed_other hd (wpAny_pure ⟨u2,rfl,⟨_,H,I.tok _,g,q⟩⟩))
theorem Ii {K:PySem.W.Frag} {a:Addr} {kvs:List (List Key×V)} {H:Hp} (h:H a=some (.dT kvs)):tyV K "dict" (.ref a) H:=.inr (.inr (.inl ⟨rfl,.inr ⟨kvs,h⟩⟩))
end
end L2
namespace L2
open PySem PySem.Spec PyProof.Rows
theorem Inv.E5 {X:Cx} {pins:List (Addr×Obj)} {σ:St} {H:Hp} {s:Shared} {h':Heap} {t':Nat} {fp:List Addr} (I:Inv X pins σ H s) (k:∀b o,b∉fp→s.heap.get? b=some o→h'.get? b=some o) (hf:∀b∈fp,qr X pins H b):Inv X pins σ H { s with heap:=h',toks:=t' }:=by
 ¤nfp:∀b u,H b=some u→b∉fp:=λb u e z=>by rw[(hf b z).1] at e;cases e
 ¶I.step (g':=s.gens) (d':=s.drawn) (ch:=fp) (λb hb=>?_) (λb o _ _ hc e _=>k b o hc e) (λb o _ _ hc e _=>⟨o.slots,k b o hc e⟩) (λ_ _ _ _ n=>n)
  (λb o hc e=>⟨o,k b o hc e⟩) (λ_ _ e=>e) (λ_ _ _ e=>e) (λb ps e=>⟨#[],by rw[e];simp⟩) (λm hm=>?_) (λb u e=>?_) I.bare
 ·£⟨f0,f1,f2,f3,f4,f5⟩:=hf b hb;§⟨f3,f1,f4,f5⟩
 ·§hm.at λo e=>k _ o (λz=>(hf _ z).2.1 rfl) e
 ·§(I.hok b u e).xn (λc v hc q=>k c v (by
   rcases hc with rfl | hc
   ·§nfp _ u e
   ·§nfp _ _ hc) q) (λ_ q=>q) λ_ _ q=>q
section
variable {X:Cx}
end
end L2
namespace Pc
open PySem PySem.Spec L2 PyProof.Rows
theorem b7 {α:Type} (l:List α) (k:Int) (h0:0≤k) (h1:k < (l.length:Int)):∃c,atI l k=some c∧c∈l:=by
 ¤hk:k.toNat < l.length:=by ¡
 ¤e:k=((k.toNat:Nat):Int):=by ¡
 ¤q:atI l ((k.toNat:Nat):Int)=some l[k.toNat]:=bo (List.getElem?_eq_getElem hk);rw[←e] at q;§⟨_,q,List.getElem_mem hk⟩
end Pc
namespace Pc
noncomputable def eat:Nat→List Nat→Option Nat
 | 0,_=>some 0
 | _+1,[]=>none
 | l+1,a::r=>(eat (l+a) r).map (·+1)
noncomputable def pend:Nat→List Nat→Option Nat
 | l,[]=>some l
 | 0,_::_=>none
 | l+1,a::r=>pend (l+a) r
noncomputable def starts:Nat→List Nat→List Nat
 | _,[]=>[]
 | p,a::r=>p::(starts (p+1) r).drop a
theorem kf (r:List Nat):eat 0 r=some 0:=by cases r <;> rfl
theorem eg (l a:Nat) (r:List Nat):eat (l+1) (a::r)=(eat (l+a) r).map (·+1):=rfl
theorem o8:∀(xs ys:List Nat) (l:Nat),pend l (xs++ys)=(pend l xs).bind λm=>pend m ys
 | [],ys,l=>by cases l <;> rfl
 | a::r,ys,0=>rfl
 | a::r,ys,l+1=>by
  show pend (l+a) (r++ys)=(pend (l+a) r).bind _
  §o8 r ys (l+a)
theorem Ci (l a:Nat) (h:0 < l):pend l [a]=some (l - 1+a):=by
 cases l with
 | zero=>¡
 | succ l=>show some (l+a)=some (l+1 - 1+a);rw[Nat.add_sub_cancel]
theorem xw (xs:List Nat) (a l d:Nat) (h:pend l xs=some d) (hd:0 < d):pend l (xs++[a])=some (d - 1+a):=by
 rw[o8,h];§Ci d a hd
theorem wb:∀(r:List Nat) (l n:Nat),eat l r=some n→n≤r.length
 | r,0,n,h=>by rw[kf] at h;cases h;§Nat.zero_le _
 | [],l+1,n,h=>by cases h
 | a::r,l+1,n,h=>by
  rw[eg] at h;£⟨m,hm,rfl⟩:=Option.map_eq_some_iff.mp h;have:=wb r (l+a) m hm;rw[List.length_cons];¡
theorem q5:∀(r:List Nat) (l:Nat),pend l r=some 0→eat l r=some r.length
 | [],l,h=>by
  cases h
  rfl
 | a::r,0,h=>by cases h
 | a::r,l+1,h=>by
  rw[eg,q5 r (l+a) h];rfl
theorem yy (r:List Nat) (l:Nat) (h:pend l r=some 0) (p:Nat):∃m,pend m (r.drop p)=some 0:=by
 ¤e:r=r.take p++r.drop p:=(List.take_append_drop p r).symm;rw[e,o8] at h;cases q:pend l (r.take p) with
 | none=>rw[q] at h;cases h
 | some m=>rw[q] at h;§⟨m,h⟩
theorem Jt {m:Nat} {r:List Nat} (h:pend m r=some 0) (hr:r≠[]):0 < m:=by
 cases r with
 | nil=>§absurd rfl hr
 | cons a r=>
  cases m with
  | zero=>cases h
  | succ m=>¡
theorem wq:∀(r:List Nat) (l m:Nat),pend (l+m) r=some 0→∃n,eat l r=some n∧pend m (r.drop n)=some 0
 | r,0,m,h=>⟨0,kf r,by rw[Nat.zero_add] at h;§h⟩
 | [],l+1,m,h=>by
  have:l+1+m=0:=Option.some.inj h;¡
 | a::r,l+1,m,h=>by
  ¤e:l+1+m=(l+m)+1:=by ¡
  rw[e] at h;¤h':pend (l+a+m) r=some 0:=by
   ¤e2:l+a+m=l+m+a:=by ¡
   rw[e2];§h
  £⟨n,h1,h2⟩:=wq r (l+a) m h';§⟨n+1,by rw[eg,h1];rfl,h2⟩
theorem qy:∀(r:List Nat) (l n p:Nat),eat l r=some n→(starts p r).drop l=starts (p+n) (r.drop n)
 | r,0,n,p,h=>by rw[kf] at h;cases h;rfl
 | [],l+1,n,p,h=>by cases h
 | a::r,l+1,n,p,h=>by
  rw[eg] at h;£⟨m,hm,rfl⟩:=Option.map_eq_some_iff.mp h;show ((starts (p+1) r).drop a).drop l=starts (p+(m+1)) (r.drop m)
  rw[List.drop_drop,Nat.add_comm a l,qy r (l+a) m (p+1) hm];congr 1
  ¡
theorem vo:∀(r:List Nat) (l p:Nat),pend l r=some 0→(starts p r).length=l
 | [],l,p,h=>by
  have:l=0:=Option.some.inj h;rw[this];rfl
 | a::r,0,p,h=>by cases h
 | a::r,l+1,p,h=>by
  ¤ih:=vo r (l+a) (p+1) h;show ((starts (p+1) r).drop a).length+1=l+1
  rw[List.length_drop,ih];¡
theorem qx (r:List Nat) (p:Nat) (h:r≠[]):∃t,starts p r=p::t:=by
 cases r with
 | nil=>§absurd rfl h
 | cons a r=>§⟨_,rfl⟩
theorem Hw (ar:List Nat) (p:Nat) (h:p < ar.length):starts p (ar.drop p)=p::(starts (p+1) (ar.drop (p+1))).drop (ar.getD p 0):=by
 rw[List.drop_eq_getElem_cons h];¤e:ar.getD p 0=ar[p]:=by rw[List.getD_eq_getElem?_getD,List.getElem?_eq_getElem h];rfl
 rw[e];rfl
end Pc
namespace Pc
end Pc
namespace Pc
open PySem PySem.Spec L2 PyProof.Rows
noncomputable abbrev parts:List (Key×V):=[(Sum.inr "add",.int 2),(Sum.inr "sub",.int 2),(Sum.inr "mul",.int 2),(Sum.inr "neg",.int 1)]
noncomputable def arS (z:Str):Nat:=if z="add" then 2 else if z="sub" then 2 else if z="mul" then 2 else if z="neg" then 1 else 0
noncomputable def arV:V→Nat
 | .str z=>arS z
 | _=>0
def isW (v:V):Prop:=∃k:Key,v=kV k
theorem Hn (k:Key):(dh parts k).getD (.int 0)=.int (arV (kV k)):=by
 cases k with
 | inl i=>rfl
 | inr z=>
  show (dh parts (Sum.inr z)).getD (.int 0)=.int (arS z)
  unfold arS;¦h1:z="add"
  ·subst h1;rw[bx rfl,if_pos rfl];rfl
  rw[bz (λe=>h1 (Sum.inr.inj e).symm),if_neg h1];¦h2:z="sub"
  ·subst h2;rw[bx rfl,if_pos rfl];rfl
  rw[bz (λe=>h2 (Sum.inr.inj e).symm),if_neg h2];¦h3:z="mul"
  ·subst h3;rw[bx rfl,if_pos rfl];rfl
  rw[bz (λe=>h3 (Sum.inr.inj e).symm),if_neg h3];¦h4:z="neg"
  ·subst h4;rw[bx rfl,if_pos rfl];rfl
  rw[bz (λe=>h4 (Sum.inr.inj e).symm),if_neg h4];rfl
theorem arS_le (z:Str):arS z≤2:=by
 unfold arS;repeat' split
 all_goals decide
theorem uw (v:V):arV v≤2:=by cases v <;> first | §arS_le _ | §Nat.zero_le _
theorem qw {z:Str} (h:0 < arS z):z="add"∨z="sub"∨z="mul"∨z="neg":=by
 unfold arS at h;¦h1:z="add"
 ·§.inl h1
 ¦h2:z="sub"
 ·§.inr (.inl h2)
 ¦h3:z="mul"
 ·§.inr (.inr (.inl h3))
 ¦h4:z="neg"
 ·§.inr (.inr (.inr h4))
 rw[if_neg h1,if_neg h2,if_neg h3,if_neg h4] at h;§absurd h (by decide)
def isTerm (ws:List V):Prop:=pend 1 (ws.map arV)=some 0
def vd:Sp:=λvs H Q _=>∃v,vs=[v]∧isW v∧Q (.int (arV v)) H
end Pc
namespace Pc
open PySem PySem.Spec L2 PyProof.Rows
def cu (H:Hp) (d b:Addr) (ns:List Int) (n:Nat):Prop:=H d=some (.lst [.ref b,.int (n:Int)])∧H b=some (.lst (List.map V.int ns))
def aq (d:Addr) (H H':Hp):Prop:=∀b o,b≠d→H b=some o→H' b=some o
theorem aq.refl (d:Addr) (H:Hp):aq d H H:=λ_ _ _ h=>h
theorem aq.trans {d:Addr} {H H1 H2:Hp} (a:aq d H H1) (b:aq d H1 H2):aq d H H2:=λc o n h=>b c o n (a c o n h)
theorem aq.of {d:Addr} {H H':Hp} (a:ak H H'):aq d H H':=λb o _ h=>a b o h
theorem aq.upd {d p:Addr} {H H':Hp} (a:aq d H H') (hp:H p=none) (o:HO):aq d H (L2.upd H' p o):=λb u n h=>by rw[af (ag h hp)];§a b u n h
theorem cu.ne {H:Hp} {d b:Addr} {ns:List Int} {n:Nat} (h:cu H d b ns n):b≠d:=df h.2 h.1 (by ¿e;cases ns <;> simp at e)
theorem cu.next {H H':Hp} {d b:Addr} {ns:List Int} {n k:Nat} (h:cu H d b ns n) (s:aq d H H') (e:H' d=some (.lst [.ref b,.int (k:Int)])):cu H' d b ns k:=⟨e,s b _ h.ne h.2⟩
theorem cu.same {H H':Hp} {d b:Addr} {ns:List Int} {n:Nat} (h:cu H d b ns n) (s:ak H H'):cu H' d b ns n:=⟨s _ _ h.1,s _ _ h.2⟩
noncomputable def rh (H:Hp) (p:Addr):Nat:=match H p with | some (.lst ws)=>ws.length | _=>0
theorem n0 {H:Hp} {p:Addr} {ws:List V} (h:H p=some (.lst ws)):rh H p=ws.length:=by unfold rh;rw[h]
def gn:Sp:=λvs H Q _=>∃(d b:Addr) (ns:List Int) (n:Nat),vs=[.ref d]∧cu H d b ns n∧n≤100000∧∀(c:Int) (H':Hp),aq d H H'→H' d=some (.lst [.ref b,.int ((n+1:Nat):Int)])→Q (.int c) H'
theorem la {z:Str}:∀{xs:List V},inV (.str z) xs=true→.str z∈xs:=by
 ¿xs h;unfold inV at h;£⟨y,hy,e⟩:=List.any_eq_true.mp h;cases y with
 | str x=>
  ¤e':x=z:=by simpa [eqV] using e
  §e' ▸ hy
 | _=>simp[eqV] at e
theorem Em (z:Str) (n:Nat):(n6 z n).cps.toList=(List.replicate n z.cps.toList).flatten:=by unfold n6;simp
theorem Am:arS "neg"=1:=by decide+kernel
theorem aq.free {d t:Addr} {H H':Hp} {o:HO} (s:aq d H H') (hd:H' d=some o) (ht:H' t=none):H t=none:=by
 cases e:H t with
 | none=>rfl
 | some u=>
  ¦h:t=d
  ·subst h;rw[hd] at ht;cases ht
  ·rw[s t u h e] at ht;cases ht
theorem Ln (ns:List Int) (lo hi:Option Int):∃ms:List Int,cn (ns.map V.int) lo hi=ms.map V.int∧ms.length≤ns.length:=by
 ¶⟨_,by unfold cn;rw[←List.map_drop,←List.map_take],?_⟩;rw[List.length_take,List.length_drop];¡
end Pc
namespace Pc
open PySem PySem.Spec L2 PyProof.Rows
theorem Gj:∀(r:List Nat) (l:Nat),pend l r=some 0→l≤r.length
 | [],l,h=>by
  have:l=0:=Option.some.inj h;¡
 | a::r,0,h=>by cases h
 | a::r,l+1,h=>by
  have:=Gj r (l+a) h;rw[List.length_cons];¡
theorem zd:∀(r:List Nat) (j k:Nat),eat (j+k) r=(eat j r).bind λs=>(eat k (r.drop s)).map (s+·)
 | r,0,k=>by
  rw[kf,Nat.zero_add];show eat k r=(eat k r).map (0+·)
  cases eat k r with
  | none=>rfl
  | some n=>show some n=some (0+n);rw[Nat.zero_add]
 | [],j+1,k=>by
  rw[show j+1+k=(j+k)+1 by ¡];rfl
 | a::r,j+1,k=>by
  rw[show j+1+k=(j+k)+1 by ¡,eg,eg,show j+k+a=j+a+k by ¡,zd r (j+a) k];cases eat (j+a) r with
  | none=>rfl
  | some s=>
   show ((eat k (r.drop s)).map (s+·)).map (·+1)=(eat k (r.drop s)).map (s+1+·)
   cases eat k (r.drop s) with
   | none=>rfl
   | some n=>show some (s+n+1)=some (s+1+n);congr 1;¡
theorem zm:∀(r:List Nat) (k n:Nat),eat (k+1) r=some n→0 < n
 | [],k,n,h=>by cases h
 | a::r,k,n,h=>by
  rw[eg] at h;£⟨m,hm,rfl⟩:=Option.map_eq_some_iff.mp h;¡
theorem kh (ws:List V) (p:Nat) (h:p≤ws.length):cn ws none (some (p:Int))=ws.take p:=by
 unfold cn;rw[HT.Gy,HT.Bb,Nat.min_eq_left h];rfl
theorem As (ws:List V) (p n:Nat) (h:p+n≤ws.length):cn ws (some ((p:Int)+(n:Int))) none=ws.drop (p+n):=by
 unfold cn;rw[show (p:Int)+(n:Int)=((p+n:Nat):Int) by ¡,HT.Gy,HT.Bb,Nat.min_eq_left h];apply List.take_of_length_le
 rw[List.length_drop];¡
theorem Ds {ws:List V} (h:isTerm ws) {p:Nat} {x:V} (hx:ws[p]?=some x):∃m,pend (m+arV x) ((ws.drop (p+1)).map arV)=some 0:=by
 ¤hp:p < ws.length:=(List.getElem?_eq_some_iff.mp hx).1;¤hd:ws.drop p=x::ws.drop (p+1):=by
  rw[List.drop_eq_getElem_cons hp];congr 1
  rw[List.getElem?_eq_getElem hp] at hx;§Option.some.inj hx
 £⟨m,hm⟩:=yy _ 1 h p;rw[←List.map_drop,hd] at hm;cases m with
 | zero=>cases hm
 | succ m'=>§⟨m',hm⟩
theorem Ap {x:V} (hx:isW x):(inV x [V.str "add",V.str "sub",V.str "mul"]=true)↔arV x=2:=by
 £⟨k,rfl⟩:=hx;cases k with
 | inl i=>
  constructor
  ·¿h;§absurd h (by simp[inV,eqV,kV])
  ·¿h;§absurd h (by show ¬(0=2);decide)
 | inr z=>
  show (inV (.str z) _=true)↔arS z=2
  constructor
  ·¿h;have:=la h;simp only[List.mem_cons,List.not_mem_nil,or_false,V.str.injEq] at this;rcases this with rfl | rfl | rfl <;> decide+kernel
  ·¿h;rcases qw (z:=z) ¥ with rfl | rfl | rfl | rfl
   ·decide+kernel
   ·decide+kernel
   ·decide+kernel
   ·rw[Am] at h;§absurd h (by decide)
noncomputable def intAt (σ:L2.St) (i:Nat):Nat:=match σ[i]? with | some (some (.int x))=>x.toNat | _=>0
def wd (K:PySem.W.Frag):Sp:=λvs H Q _=>∃(t:Addr) (ws:List V) (p n:Nat),vs=[.ref t,.int (p:Int)]∧SqT K H t ws∧(∀v∈ws,isW v)∧ws.length≤1000∧eat 1 ((ws.drop p).map arV)=some n∧∀H',ak H H'→Q (.int ((p:Int)+(n:Int))) H'
end Pc
namespace L2.Srt
open PySem PySem.W PyProof.Rows PySem.Spec
section
variable {prog:Program} {w:World} {A:Around} {E:Value→Shared→Prop} {s:Shared}
end
end L2.Srt
namespace L2
open PySem PySem.Spec PyProof.Rows Srt
section
variable {X:Cx}
theorem Cz {h:Heap} {vs:List Value} {out:Array Value} {b:Addr} {o:Obj} (hb:h.get? b=some o):(sortedHeap (h.push (seqObj "list" vs.toArray 0)) h.objs.size vs out).get? b=some o:=by
 ¤hlt:b < h.objs.size:=Heap.lt_size hb;unfold sortedHeap;¤sz:(h.push (seqObj "list" vs.toArray 0)).objs.size=h.objs.size+1:=size_push' _ _;rw[Heap.get?_update_ne _ _ _ _ (Nat.ne_of_lt hlt),Heap.get?_push_ne _ _ _ (by rw[size_push',Heap.size_update,sz];§Nat.ne_of_lt (Nat.lt_of_lt_of_le hlt ¥)),Heap.get?_push_ne _ _ _ (by rw[Heap.size_update,sz];§Nat.ne_of_lt (Nat.lt_of_lt_of_le hlt ¥)),Heap.get?_update_ne _ _ _ _ (Nat.ne_of_lt hlt),Heap.get?_push_ne _ _ _ (Nat.ne_of_lt hlt)];§hb
theorem Hx {h:Heap} {vs:List Value} {out:Array Value}:∃e,(sortedHeap (h.push (seqObj "list" vs.toArray 0)) h.objs.size vs out).get? h.objs.size=some (seqObj "list" out e):=by
 £⟨e1,h1⟩:∃e,((h.push (seqObj "list" vs.toArray 0)).update h.objs.size (Obj.mapSeq λ_=>#[])).get? h.objs.size=some (seqObj "list" #[] e):=⟨_,get?_update_seq (Heap.get?_push_size _ rfl) _⟩;¤sz:(h.push (seqObj "list" vs.toArray 0)).objs.size=h.objs.size+1:=size_push' _ _;unfold sortedHeap;¶⟨_,get?_update_seq (xs:=#[]) (n:=e1) ?_ _⟩;rw[Heap.get?_push_ne _ _ _ (by rw[size_push',Heap.size_update,sz];§Nat.ne_of_lt ¥),Heap.get?_push_ne _ _ _ (by rw[Heap.size_update,sz];§Nat.ne_of_lt ¥)];§h1
end
end L2
namespace L2.RvR
open PySem PySem.Spec PySem.Calls PyProof.Rows
section
variable {prog:Program} {w:World} {A:Around} {E:Value→Shared→Prop} {s:Shared}
end
end L2.RvR
namespace L2
open PySem PySem.Spec PyProof.Rows RvR
noncomputable def Itd (n:Nat):It:=⟨λi _=>i < n,λi H x H'=>H'=H∧x=.int ((n:Int) - 1 - (i:Int)),λi _=>n≤i⟩
theorem Je {P:Program} {w:World} {K:PySem.W.Frag} {tg:Expr} (it:Addr) (n:Nat):Turn P w K tg (Itd n) [it] it (λi h=>IsRangeIter h it ((n:Int) - 1+(i:Nat)*(-1)) ((n:Int) - (i:Nat)) (-1)) where
 mem:=by simp
 obj:=λi h st b hb=>by
  ¤e:b=it:=by simpa using hb
  subst e;§⟨_,st,λv z=>nomatch (show Data.fields _=Data.cell v from z)⟩
 keep:=λi h h' st k=>k it (by simp) _ st
 item:=by
  ¿X hP hw hK hc i pins s σ H E I hf st hg;subst hP hw hK;£⟨f0,f1,f2,f3,f4,f5⟩:=hf it (by simp);¶(Walks.range (prog:=X.prog) (w:=X.w) (I.ok.hd hc) it ((n:Int) - 1) (-1) n).item i s _ _ hg st λv h' tk hv st' kk=>?_;£⟨t,rfl⟩:=hv;¤I1:Inv X pins σ H { s with heap:=h',toks:=tk }:=I.turned (λb o hb e=>kk b o (by simpa using hb) e) f0 f1 f3 f4 f5;¶⟨_,rfl,xv (s:={ s with heap:=h',toks:=tk }) (n:="range_iterator") st' rfl rfl (by decide) ⟨.int ((n:Int) - 1 - (i:Int)),H,I1,⟨t,?_⟩,⟨rfl,rfl⟩,st',λb hb=>(hf b hb).1⟩⟩;congr 1
  ¡
 done:=by
  ¿X hP hw hK hc i pins s σ H E I hf st hg;subst hP hw hK;£⟨f0,f1,f2,f3,f4,f5⟩:=hf it (by simp);¤hg:n≤i:=hg;§wpAny_pyNext_range_end (I.ok.hd hc) st ¥ λh' eb=>⟨rfl,I.turned (t':=s.toks) (λb o hb e=>eb b o hb e) f0 f1 f3 f4 f5⟩
 self:=λ_ _ _ _ _ st h=>wpAny_pyIter_rangeiter st h
section
variable {X:Cx} {tg:Expr}
end
end L2
namespace L2
open PySem PySem.Spec PyProof.Rows
end L2
namespace Pc
open PySem PySem.Spec L2 PyProof.Rows
noncomputable abbrev plV (q:Nat):V:=V.int ((q:Nat):Int)
end Pc
namespace Pc
open PySem PySem.Spec L2 PyProof.Rows
noncomputable def ig:V:=.str (Str.ofString "any")
noncomputable def gq:V:=.str (Str.ofString "var")
noncomputable def lN:Str:=Str.ofString "n"
noncomputable def lV:Str:=Str.ofString "v"
noncomputable def lH:Str:=Str.ofString "h"
noncomputable def lO:Str:=Str.ofString ""
noncomputable def cm (kinds:List Str) (v:V):Str:=if v=ig then lN else if v=gq then lV else if inV v (kinds.map V.str)=true then lH else lO
noncomputable def isStr:V→Bool
 | .str _=>true
 | _=>false
noncomputable def lies (l:Str) (v x:V):Bool:=if l=lH then true else if l=lN then !isStr x else if l=lV then isStr x&&decide (arV x=0) else decide (v=x)
def jk (K:PySem.W.Frag):Sp:=λvs H Q _=>∃(v:V) (kt:Addr) (kinds:List Str),vs=[v,.ref kt]∧isW v∧SqT K H kt (kinds.map V.str)∧Q (.str (cm kinds v)) H
def zw:Sp:=λvs H Q _=>∃(l:Str) (v x:V),vs=[.str l,v,x]∧isW v∧isW x∧Q (.bl (lies l v x)) H
theorem isW.sc {v:V} (h:isW v) (z:Str):scal v (.str z)=true:=by
 £⟨k,rfl⟩:=h;cases k <;> rfl
theorem isW.sc2 {v x:V} (h:isW v) (g:isW x):scal v x=true:=by
 £⟨k,rfl⟩:=h;£⟨m,rfl⟩:=g;cases k <;> cases m <;> rfl
theorem isW.flat {v:V} (h:isW v):ij v=true:=by
 £⟨k,rfl⟩:=h;§Ad k
structure Und where
 hs:List Nat
 ns:List V
 vs:List V
noncomputable def Und.put (u:Und) (l:Str) (p:Nat) (x:V):Und:=if l=lH then ⟨u.hs++[p],u.ns,u.vs⟩ else if l=lN then ⟨u.hs,u.ns++[x],u.vs⟩ else if l=lV then ⟨u.hs,u.ns,u.vs++[x]⟩ else u
noncomputable def endAt (ws:List V) (p:Nat):Nat:=p+(eat 1 ((ws.drop p).map arV)).getD 0
noncomputable def dy (kinds:List Str) (ws:List V):List V→Nat→Und→Option Und
 | [],_,u=>some u
 | v::r,p,u=>if lies (cm kinds v) v (ws.getD p .non)=true then dy kinds ws r (if cm kinds v=lH then endAt ws p else p+1) (u.put (cm kinds v) p (ws.getD p .non)) else none
def Kd (H:Hp) (t:Addr) (u:Und):Prop:=∃t1 t2 t3:Addr,H t=some (.tup [.ref t1,.ref t2,.ref t3])∧H t1=some (.tup (u.hs.map plV))∧H t2=some (.tup u.ns)∧H t3=some (.tup u.vs)
structure UndOk (u:Und):Prop where
 n:(∀v∈u.ns,isW v)∧u.ns.length≤1000
 v:(∀v∈u.vs,isW v)∧u.vs.length≤1000
 h:u.hs.length≤1000
def Dg (u:Und):Prop:=(∀v∈u.ns,isW v)∧∀v∈u.vs,isW v
theorem Dg.put {u:Und} (h:Dg u) {x:V} (hx:isW x) (l:Str) (p:Nat):Dg (u.put l p x):=by
 unfold Und.put;¤ap:∀{L:List V},(∀v∈L,isW v)→∀v∈L++[x],isW v:=λ{L} hL v hv=>by
  rcases List.mem_append.mp hv with g | g
  ·§hL v g
  ·rw[List.mem_singleton.mp g];§hx
 ¦c1:l=lH
 ·rw[if_pos c1];§h
 rw[if_neg c1];¦c2:l=lN
 ·rw[if_pos c2];§⟨ap h.1,h.2⟩
 rw[if_neg c2];¦c3:l=lV
 ·rw[if_pos c3];§⟨h.1,ap h.2⟩
 rw[if_neg c3];§h
def Kinds (kinds:List Str):Prop:=∀z∈kinds,arS z=0∧V.str z≠ig∧V.str z≠gq
def told (r:Option Und) (H':Hp) (Q:VK):Prop:=match r with
 | none=>Q .non H'
 | some u=>∀(t:Addr) (H2:Hp),ak H' H2→Kd H2 t u→UndOk u→Q (.ref t) H2
theorem yb {H':Hp} {Q:VK} (h:Q .non H'):told none H' Q:=h
def Ai (K:PySem.W.Frag):Sp:=λvs H Q _=>∃(st kt wt:Addr) (sh:List V) (kinds:List Str) (ws:List V) (p n:Nat),vs=[.ref st,.ref kt,.ref wt,.int (p:Int)]∧SqT K H st sh∧SqT K H kt (kinds.map V.str)∧SqT K H wt ws∧Kinds kinds∧(∀v∈sh,isW v)∧(∀v∈ws,isW v)∧isTerm sh∧eat 1 ((ws.drop p).map arV)=some n∧sh.length≤1000∧ws.length≤1000∧∀H',ak H H'→told (dy kinds ws sh p ⟨[],[],[]⟩) H' Q
theorem gh {kinds:List Str} {v:V} (hv:isW v):(v=ig∧cm kinds v=lN)∨(v=gq∧cm kinds v=lV)∨((∃z∈kinds,v=.str z)∧cm kinds v=lH)∨(cm kinds v=lO∧inV v (kinds.map V.str)=false):=by
 unfold cm;¦h1:v=ig
 ·§.inl ⟨h1,if_pos h1⟩
 ¦h2:v=gq
 ·§.inr (.inl ⟨h2,by rw[if_neg h1,if_pos h2]⟩)
 cases h3:inV v (kinds.map V.str) with
 | true=>
  ¶.inr (.inr (.inl ⟨?_,by rw[if_neg h1,if_neg h2,if_pos rfl]⟩));£⟨k,rfl⟩:=hv;cases k with
  | inl i=>
   exfalso
   clear h1 h2;induction kinds with
   | nil=>cases h3
   | cons z r ih=>§ih h3
  | inr z=>
   £⟨y,hy,e⟩:=List.mem_map.mp (la h3);§⟨y,hy,e.symm⟩
 | false=>§.inr (.inr (.inr ⟨by rw[if_neg h1,if_neg h2,if_neg (by decide)],rfl⟩))
theorem wk:arV ig=0:=by decide+kernel
theorem ui:arV gq=0:=by decide+kernel
theorem lets:lN≠lH∧lV≠lH∧lO≠lH∧lV≠lN∧lO≠lN∧lO≠lV:=by decide+kernel
theorem jb {kinds:List Str} {ws r:List V} {v x:V} {q d m:Nat} (hk:Kinds kinds) (hv:isW v) (hx:ws[q]?=some x) (hxw:isW x) (hp:pend (d+1) (arV v::r.map arV)=some 0) (he:eat (d+1) ((ws.drop q).map arV)=some m)
  (hl:lies (cm kinds v) v x=true):∃d' m',pend d' (r.map arV)=some 0∧eat d' ((ws.drop (if cm kinds v=lH then endAt ws q else q+1)).map arV)=some m':=by
 ¤hq:q < ws.length:=(List.getElem?_eq_some_iff.mp hx).1;¤ed:ws.drop q=x::ws.drop (q+1):=by
  rw[List.drop_eq_getElem_cons hq];congr 1
  rw[List.getElem?_eq_getElem hq] at hx;§Option.some.inj hx
 £⟨e1,e2,e3,e4,e5,e6⟩:=lets;¤hp:pend (d+arV v) (r.map arV)=some 0:=hp;¤one:arV v=arV x→cm kinds v≠lH→∃d' m',pend d' (r.map arV)=some 0∧eat d' ((ws.drop (if cm kinds v=lH then endAt ws q else q+1)).map arV)=some m':=λh n=>by
  rw[if_neg n];rw[ed,List.map_cons,eg] at he;£⟨k,hk',_⟩:=Option.map_eq_some_iff.mp he;§⟨d+arV v,k,hp,by rw[h];§hk'⟩
 unfold lies at hl;rcases gh (kinds:=kinds) hv with ⟨rfl,h⟩ | ⟨rfl,h⟩ | ⟨⟨z,hz,rfl⟩,h⟩ | ⟨h,_⟩
 ·¶one ?_ (by rw[h];§e1);rw[h,if_neg e1,if_pos rfl] at hl;rw[wk];£⟨k,rfl⟩:=hxw;cases k with
  | inl i=>rfl
  | inr y=>cases hl
 ·¶one ?_ (by rw[h];§e2);rw[h,if_neg e2,if_neg e4,if_pos rfl,Bool.and_eq_true] at hl;rw[ui];§(of_decide_eq_true hl.2).symm
 ·rw[if_pos h];¤a0:arV (.str z)=0:=(hk z hz).1;rw[a0] at hp;rw[show d+1=1+d by ¡,zd] at he;cases h1:eat 1 ((ws.drop q).map arV) with
  | none=>rw[h1] at he;cases he
  | some n=>
   rw[h1] at he;£⟨k,hk',_⟩:=Option.map_eq_some_iff.mp (show (eat d (((ws.drop q).map arV).drop n)).map (n+·)=some m from he);¶⟨d,k,hp,?_⟩;unfold endAt;rw[h1,show (some n).getD 0=n from rfl,←List.drop_drop];rw[←List.map_drop] at hk';§hk'
 ·¶one ?_ (by rw[h];§e3);rw[h,if_neg e3,if_neg e5,if_neg e6] at hl;rw[of_decide_eq_true hl]
theorem m6 {kinds:List Str} {ws:List V} {v:V} {r:List V} {p:Nat} {u:Und}:dy kinds ws (v::r) p u=if lies (cm kinds v) v (ws.getD p .non)=true then dy kinds ws r (if cm kinds v=lH then endAt ws p else p+1) (u.put (cm kinds v) p (ws.getD p .non)) else none:=rfl
def UAt (H:Hp) (u0 l1 l2 l3:Addr) (u:Und):Prop:=H u0=some (.dK [(Sum.inr lH,.ref l1),(Sum.inr lN,.ref l2),(Sum.inr lV,.ref l3)])∧H l1=some (.lst (u.hs.map plV))∧H l2=some (.lst u.ns)∧H l3=some (.lst u.vs)
theorem UAt.same {H H':Hp} {u0 l1 l2 l3:Addr} {u:Und} (h:UAt H u0 l1 l2 l3 u) (s:ak H H'):UAt H' u0 l1 l2 l3 u:=⟨s _ _ h.1,s _ _ h.2.1,s _ _ h.2.2.1,s _ _ h.2.2.2⟩
theorem Und.Fb (u:Und) (l:Str) (p:Nat) (x:V) {i:Nat} (h:u.hs.length≤i∧u.ns.length≤i∧u.vs.length≤i):(u.put l p x).hs.length≤i+1∧(u.put l p x).ns.length≤i+1∧(u.put l p x).vs.length≤i+1:=by
 £⟨h1,h2,h3⟩:=h;unfold Und.put;¦c1:l=lH
 ·rw[if_pos c1];¶⟨?_,by show u.ns.length≤_;¡,by show u.vs.length≤_;¡⟩;show (u.hs++[p]).length≤_
  rw[List.length_append,List.length_singleton];¡
 rw[if_neg c1];¦c2:l=lN
 ·rw[if_pos c2];¶⟨by show u.hs.length≤_;¡,?_,by show u.vs.length≤_;¡⟩;show (u.ns++[x]).length≤_
  rw[List.length_append,List.length_singleton];¡
 rw[if_neg c2];¦c3:l=lV
 ·rw[if_pos c3];¶⟨by show u.hs.length≤_;¡,by show u.ns.length≤_;¡,?_⟩;show (u.vs++[x]).length≤_
  rw[List.length_append,List.length_singleton];¡
 rw[if_neg c3];§⟨¥,¥,¥⟩
theorem UAt.get1 {H:Hp} {u0 l1 l2 l3:Addr} {u:Und} (h:UAt H u0 l1 l2 l3 u):jz H u0 (.str lH) (some (.ref l1)):=.inl ⟨_,.inr lH,.inl h.1,rfl,rfl⟩
theorem UAt.get2 {H:Hp} {u0 l1 l2 l3:Addr} {u:Und} (h:UAt H u0 l1 l2 l3 u):jz H u0 (.str lN) (some (.ref l2)):=.inl ⟨_,.inr lN,.inl h.1,rfl,rfl⟩
theorem UAt.get3 {H:Hp} {u0 l1 l2 l3:Addr} {u:Und} (h:UAt H u0 l1 l2 l3 u):jz H u0 (.str lV) (some (.ref l3)):=.inl ⟨_,.inr lV,.inl h.1,rfl,rfl⟩
theorem UAt.put1 {H:Hp} {u0 l1 l2 l3:Addr} {u:Und} (h:UAt H u0 l1 l2 l3 u) (n10:l1≠u0) (n21:l2≠l1) (n31:l3≠l1) (p:Nat) (x:V):UAt (upd H l1 (.lst (u.hs.map plV++[plV p]))) u0 l1 l2 l3 (u.put lH p x):=by
 unfold Und.put;rw[if_pos rfl];¶⟨by rw[af n10.symm];§h.1,?_,by rw[af n21];§h.2.2.1,by rw[af n31];§h.2.2.2⟩;rw[ae,List.map_append];rfl
theorem UAt.put2 {H:Hp} {u0 l1 l2 l3:Addr} {u:Und} (h:UAt H u0 l1 l2 l3 u) (n20:l2≠u0) (n21:l2≠l1) (n32:l3≠l2) (p:Nat) (x:V):UAt (upd H l2 (.lst (u.ns++[x]))) u0 l1 l2 l3 (u.put lN p x):=by
 unfold Und.put;rw[if_neg lets.1,if_pos rfl];§⟨by rw[af n20.symm];§h.1,by rw[af n21.symm];§h.2.1,ae,by rw[af n32];§h.2.2.2⟩
theorem UAt.put3 {H:Hp} {u0 l1 l2 l3:Addr} {u:Und} (h:UAt H u0 l1 l2 l3 u) (n30:l3≠u0) (n31:l3≠l1) (n32:l3≠l2) (p:Nat) (x:V):UAt (upd H l3 (.lst (u.vs++[x]))) u0 l1 l2 l3 (u.put lV p x):=by
 unfold Und.put;rw[if_neg lets.2.1,if_neg lets.2.2.2.1,if_pos rfl];§⟨by rw[af n30.symm];§h.1,by rw[af n31.symm];§h.2.1,by rw[af n32.symm];§h.2.2.1,ae⟩
theorem Und.put0 (u:Und) (p:Nat) (x:V):u.put lO p x=u:=by
 unfold Und.put;rw[if_neg lets.2.2.1,if_neg lets.2.2.2.2.1,if_neg lets.2.2.2.2.2]
theorem Fz {r:List Nat} {d m:Nat} (h:eat (d+1) r=some m):∃n,eat 1 r=some n:=by
 rw[show d+1=1+d by ¡,zd] at h;cases h1:eat 1 r with
 | none=>rw[h1] at h;cases h
 | some n=>§⟨n,rfl⟩
structure Rl where
 name:Str
 kind:Str
 price:Int
 shape:List V
def fj (H:Hp) (a:Addr) (r:Rl):Prop:=∃(sa da:Addr) (ds:List V),H a=some (.tup [.str r.name,.str r.kind,.int r.price,.ref sa,.ref da])∧H sa=some (.tup r.shape)∧H da=some (.tup ds)
theorem fj.same {H H':Hp} {a:Addr} {r:Rl} (h:fj H a r) (s:ak H H'):fj H' a r:=by
 £⟨sa,da,ds,h1,h2,h3⟩:=h;§⟨sa,da,ds,s _ _ h1,s _ _ h2,s _ _ h3⟩
def dk (H:Hp) (ra:List Addr) (rs:List Rl):Prop:=ra.length=rs.length∧∀(i:Nat) (r:Rl),rs[i]?=some r→∃a,ra[i]?=some a∧fj H a r
theorem dk.same {H H':Hp} {ra:List Addr} {rs:List Rl} (h:dk H ra rs) (s:ak H H'):dk H' ra rs:=⟨h.1,λi r hr=>by
 £⟨a,h1,h2⟩:=h.2 i r hr;§⟨a,h1,h2.same s⟩⟩
def cy (H:Hp) (b:Addr) (kinds:List Str) (rs:List Rl):Prop:=∃(kt rt:Addr) (ra:List Addr),H b=some (.tup [.ref kt,.ref rt])∧H kt=some (.tup (kinds.map V.str))∧H rt=some (.tup (ra.map V.ref))∧dk H ra rs
theorem cy.same {H H':Hp} {b:Addr} {kinds:List Str} {rs:List Rl} (h:cy H b kinds rs) (s:ak H H'):cy H' b kinds rs:=by
 £⟨kt,rt,ra,h1,h2,h3,h4⟩:=h;§⟨kt,rt,ra,s _ _ h1,s _ _ h2,s _ _ h3,h4.same s⟩
structure Bk (kinds:List Str) (rs:List Rl):Prop where
 kd:Kinds kinds
 nd:(rs.map (·.name)).Nodup
 sh:∀r∈rs,(∀v∈r.shape,isW v)∧isTerm r.shape∧r.shape.length≤100
 len:rs.length≤100
 kn:kinds.Nodup
 kl:kinds.length≤60
 pr:∀r∈rs,1≤r.price
 rk:∀r∈rs,r.kind∈kinds
structure Tw (ws:List V):Prop where
 w:∀v∈ws,isW v∧v≠ig∧v≠gq
 one:isTerm ws
 len:ws.length≤1000
theorem Tw.eat {ws:List V} (h:Tw ws) {p:Nat} (hp:p < ws.length):∃n,eat 1 ((ws.drop p).map arV)=some n:=by
 £⟨m,hm⟩:=yy _ 1 h.one p;rw[←List.map_drop] at hm;¤hpos:=Jt hm (by ¿e;have:=congrArg List.length e;rw[List.length_map,List.length_drop] at this;simp at this;¡);£⟨d,rfl⟩:∃d,m=d+1:=⟨m - 1,¥⟩;§Fz (q5 _ _ hm)
def ze (K:PySem.W.Frag):Sp:=λvs H Q _=>∃(t:Addr) (ws:List V),vs=[.ref t]∧SqT K H t ws∧(∀v∈ws,isW v)∧isTerm ws∧ws.length≤1000∧∀(l:Addr) (H':Hp),ak H H'→H l=none→H' l=some (.lst ((List.range ws.length).map λq=>plV (endAt ws q)))→Q (.ref l) H'
def ub (K:PySem.W.Frag):Sp:=λvs H Q _=>∃(st kt wt et:Addr) (sh:List V) (kinds:List Str) (ws:List V) (p:Nat),vs=[.ref kt,.ref st,.ref wt,.ref et,.int (p:Int)]∧SqT K H st sh∧SqT K H kt (kinds.map V.str)∧SqT K H wt ws∧H et=some (.lst ((List.range ws.length).map λq=>plV (endAt ws q)))∧Kinds kinds∧(∀v∈sh,isW v)∧isTerm sh∧sh.length≤1000∧Tw ws∧p < ws.length∧∀H',ak H H'→told (dy kinds ws sh p ⟨[],[],[]⟩) H' Q
noncomputable def uy (ws:List V) (p:Nat):List Nat:=starts p ((ws.map arV).drop p)++[ws.length]
theorem M7 (ws:List V):uy ws ws.length=[ws.length]:=by
 unfold uy;rw[List.drop_of_length_le (by rw[List.length_map];§Nat.le_refl _)];rfl
theorem Qu {ws:List V} (h:isTerm ws) {p:Nat} {x:V} (hx:ws[p]?=some x):uy ws p=p::(uy ws (p+1)).drop (arV x)∧∃t,(uy ws (p+1)).drop (arV x)=endAt ws p::t:=by
 ¤hp:p < ws.length:=(List.getElem?_eq_some_iff.mp hx).1;£⟨m,hm⟩:=Ds h hx;¤Sl:=vo _ _ (p+1) hm;rw[List.map_drop] at Sl hm;¤ea:(ws.map arV).getD p 0=arV x:=by rw[List.getD_eq_getElem?_getD,List.getElem?_map,hx];rfl
 ¤hst:=Hw (ws.map arV) p (by rw[List.length_map];§hp);rw[ea] at hst;£⟨n,hn,_⟩:=wq _ (arV x) m (by rw[Nat.add_comm];§hm);¤hd:=qy _ _ _ (p+1) hn;¤hle:=wb _ _ _ hn;¤ed:(ws.drop p).map arV=arV x::(ws.map arV).drop (p+1):=by
  rw[List.drop_eq_getElem_cons hp,List.map_cons,List.map_drop];rw[List.getElem?_eq_getElem hp] at hx;rw[Option.some.inj hx]
 ¤en:endAt ws p=p+1+n:=by
  unfold endAt;rw[ed,eg,Nat.zero_add,hn];show p+(n+1)=_
  ¡
 unfold uy;rw[hst,List.drop_append_of_le_length ¥,hd];¶⟨rfl,?_⟩;rw[List.drop_drop];rw[List.length_drop,List.length_map] at hle;¦c:p+1+n < ws.length
 ·£⟨t,ht⟩:=qx ((ws.map arV).drop (p+1+n)) (p+1+n) (by ¿e;have:=congrArg List.length e;rw[List.length_drop,List.length_map] at this;simp at this;¡);§⟨t++[ws.length],by rw[ht,en];rfl⟩
 ·¶⟨[],?_⟩;rw[List.drop_of_length_le (by rw[List.length_map];¡),en,show p+1+n=ws.length by ¡];rfl
theorem zv {x:V} (hx:isW x):(inV x [V.str "add",V.str "sub",V.str "mul",V.str "neg"]=true)↔0 < arV x:=by
 £⟨k,rfl⟩:=hx;cases k with
 | inl i=>
  constructor
  ·¿h;§absurd h (by simp[inV,eqV,kV])
  ·¿h;§absurd h (by show ¬(0 < 0);decide)
 | inr z=>
  show (inV (.str z) _=true)↔0 < arS z
  constructor
  ·¿h;have:=la h;simp only[List.mem_cons,List.not_mem_nil,or_false,V.str.injEq] at this;rcases this with rfl | rfl | rfl | rfl <;> decide+kernel
  ·¿h;rcases qw (z:=z) h with rfl | rfl | rfl | rfl <;> decide+kernel
theorem Hr (ws:List V) {p:Nat} (hp:p≤ws.length):∃t,uy ws p=p::t:=by
 unfold uy;¦c:p < ws.length
 ·£⟨t,ht⟩:=qx ((ws.map arV).drop p) p (by ¿e;have:=congrArg List.length e;rw[List.length_drop,List.length_map] at this;simp at this;¡);§⟨t++[ws.length],by rw[ht];rfl⟩
 ·¶⟨[],?_⟩;rw[List.drop_of_length_le (by rw[List.length_map];¡),show p=ws.length by ¡];rfl
theorem Qf {n p:Nat} (h:p < n):ixN n (p:Int)=some p:=by
 unfold ixN;rw[if_pos ¥,if_pos ¥,Int.toNat_natCast]
theorem Lv {p:Nat} {x:V} {L:List V}:(List.replicate (p+1) (V.int 0)++L).set p x=List.replicate p (V.int 0)++x::L:=by
 rw[List.replicate_succ',List.append_assoc,List.set_append_right _ _ (by rw[List.length_replicate];§Nat.le_refl _),List.length_replicate,Nat.sub_self];rfl
theorem yp:∀(r:List Nat) (p:Nat),(starts p r).length≤r.length
 | [],_=>Nat.le_refl _
 | a::r,p=>by
  show (p::(starts (p+1) r).drop a).length≤_
  have:=yp r (p+1);rw[List.length_cons,List.length_drop,List.length_cons];¡
theorem Jz (ws:List V) (p:Nat):(uy ws p).length≤ws.length+1:=by
 unfold uy;have:=yp ((ws.map arV).drop p) p;rw[List.length_drop,List.length_map] at this;rw[List.length_append,List.length_singleton];¡
def mv (H:Hp) (u0 l1 l2 l3:Addr) (u:Und):Prop:=H u0=some (.lst [.ref l1,.ref l2,.ref l3])∧H l1=some (.lst (u.hs.map plV))∧H l2=some (.lst u.ns)∧H l3=some (.lst u.vs)
theorem mv.same {H H':Hp} {u0 l1 l2 l3:Addr} {u:Und} (h:mv H u0 l1 l2 l3 u) (s:ak H H'):mv H' u0 l1 l2 l3 u:=⟨s _ _ h.1,s _ _ h.2.1,s _ _ h.2.2.1,s _ _ h.2.2.2⟩
theorem mv.put1 {H:Hp} {u0 l1 l2 l3:Addr} {u:Und} (h:mv H u0 l1 l2 l3 u) (n10:u0≠l1) (n21:l2≠l1) (n31:l3≠l1) (p:Nat) (x:V):mv (upd H l1 (.lst (u.hs.map plV++[plV p]))) u0 l1 l2 l3 (u.put lH p x):=by
 unfold Und.put;rw[if_pos rfl];¶⟨by rw[af n10];§h.1,?_,by rw[af n21];§h.2.2.1,by rw[af n31];§h.2.2.2⟩;rw[ae,List.map_append];rfl
theorem mv.put2 {H:Hp} {u0 l1 l2 l3:Addr} {u:Und} (h:mv H u0 l1 l2 l3 u) (n20:u0≠l2) (n21:l2≠l1) (n32:l3≠l2) (p:Nat) (x:V):mv (upd H l2 (.lst (u.ns++[x]))) u0 l1 l2 l3 (u.put lN p x):=by
 unfold Und.put;rw[if_neg lets.1,if_pos rfl];§⟨by rw[af n20];§h.1,by rw[af n21.symm];§h.2.1,ae,by rw[af n32];§h.2.2.2⟩
theorem mv.put3 {H:Hp} {u0 l1 l2 l3:Addr} {u:Und} (h:mv H u0 l1 l2 l3 u) (n30:u0≠l3) (n31:l3≠l1) (n32:l3≠l2) (p:Nat) (x:V):mv (upd H l3 (.lst (u.vs++[x]))) u0 l1 l2 l3 (u.put lV p x):=by
 unfold Und.put;rw[if_neg lets.2.1,if_neg lets.2.2.2.1,if_pos rfl];§⟨by rw[af n30];§h.1,by rw[af n31.symm];§h.2.1,by rw[af n32.symm];§h.2.2.1,ae⟩
theorem Kinds.out {kinds:List Str} (h:Kinds kinds) {z:Str} (hz:V.str z=ig∨V.str z=gq):inV (.str z) (kinds.map V.str)=false:=by
 cases e:inV (.str z) (kinds.map V.str) with
 | false=>rfl
 | true=>
  £⟨y,hy,e2⟩:=List.mem_map.mp (la e);£⟨_,h1,h2⟩:=h y hy;rcases hz with hz | hz
  ·§absurd (e2.trans hz) h1
  ·§absurd (e2.trans hz) h2
theorem letH {kinds:List Str} {v:V} (h:cm kinds v=lH):inV v (kinds.map V.str)=true:=by
 unfold cm at h;£⟨b1,b2,b3,_,_,_⟩:=lets;¦h1:v=ig
 ·rw[if_pos h1] at h;§absurd h b1
 ¦h2:v=gq
 ·rw[if_neg h1,if_pos h2] at h;§absurd h b2
 rw[if_neg h1,if_neg h2] at h;cases e:inV v (kinds.map V.str) with
 | true=>rfl
 | false=>rw[e,if_neg (by decide)] at h;§absurd h b3
theorem letO {kinds:List Str} {v:V} (h:cm kinds v=lO):v≠ig∧v≠gq:=by
 £⟨_,_,_,_,b5,b6⟩:=lets;unfold cm at h;¶⟨λe=>?_,λe=>?_⟩
 ·rw[if_pos e] at h;§b5 h.symm
 ·subst e;¦h1:gq=ig
  ·rw[if_pos h1] at h;§b5 h.symm
  ·rw[if_neg h1,if_pos rfl] at h;§b6 h.symm
end Pc
namespace Pc
open PySem PySem.Spec L2 PyProof.Rows
def nmOk (z:Str):Prop:=arS z=0∧V.str z≠ig∧V.str z≠gq
def cg (H:Hp) (l:Addr) (zs:List Str):Prop:=H l=some (.lst (zs.map V.str))∧zs.length=60∧zs.Nodup∧∀z∈zs,nmOk z
theorem cg.same {H H':Hp} {l:Addr} {zs:List Str} (h:cg H l zs) (s:ak H H'):cg H' l zs:=⟨s _ _ h.1,h.2⟩
theorem cg.b8 {H H':Hp} {d b l:Addr} {ns:List Int} {n:Nat} {zs:List Str} (h:cg H l zs) (hD:cu H d b ns n) (s:aq d H H'):cg H' l zs:=by
 ¶⟨s _ _ (df h.1 hD.1 ?_) h.1,h.2⟩;¿e;have:=h.2.1;cases zs with
 | nil=>cases this
 | cons z r=>
  ¤e:HO.lst (V.str z::r.map V.str)=HO.lst _:=e;cases e
def twW (v:V):Prop:=isW v∧v≠ig∧v≠gq
theorem twW_int (i:Int):twW (.int i):=⟨⟨Sum.inl i,rfl⟩,(λe=>nomatch e),λe=>nomatch e⟩
theorem twW_name {z:Str} (h:nmOk z):twW (.str z):=⟨⟨Sum.inr z,rfl⟩,h.2⟩
theorem twW_op {z:Str} (h:0 < arS z):twW (.str z):=⟨⟨Sum.inr z,rfl⟩,λe=>by rw[V.str.inj (show V.str z=V.str (Str.ofString "any") from e)] at h;revert h;decide+kernel,λe=>by rw[V.str.inj (show V.str z=V.str (Str.ofString "var") from e)] at h;revert h;decide+kernel⟩
theorem t8 {z:Str} {xs:List V} (h:V.str z∈xs):inV (.str z) xs=true:=List.any_eq_true.mpr ⟨_,h,by simp[eqV]⟩
def sk:Sp:=λvs H Q _=>∃(d nl b:Addr) (ns:List Int) (zs:List Str) (m n:Nat),vs=[.ref d,.ref nl,.int (m:Int)]∧cu H d b ns n∧cg H nl zs∧1≤m∧m≤120∧n≤50000∧∀(t:Addr) (n':Nat) (H':Hp) (ws:List V),aq d H H'→H' d=some (.lst [.ref b,.int (n':Int)])→n'≤n+m→H t=none→H' t=some (.tup ws)→Tw ws→ws.length≤m→Q (.ref t) H'
structure jy (kinds:List Str) (sh:List V):Prop where
 w:∀v∈sh,isW v
 one:isTerm sh
 len:sh.length≤11
 few:(sh.filter λv=>!inV v (kinds.map V.str)).length≤5
def tf:Sp:=λvs H Q _=>∃(d kt b:Addr) (ns:List Int) (kinds:List Str) (n:Nat),vs=[.ref d,.ref kt]∧cu H d b ns n∧H kt=some (.tup (kinds.map V.str))∧Kinds kinds∧1≤kinds.length∧kinds.length≤20∧n≤50000∧∀(t:Addr) (n':Nat) (H':Hp) (sh:List V),aq d H H'→H' d=some (.lst [.ref b,.int (n':Int)])→n'≤n+12→H t=none→H' t=some (.tup sh)→jy kinds sh→Q (.ref t) H'
def tj (K:PySem.W.Frag):Sp:=λvs H Q _=>∃(kt st:Addr) (kinds:List Str) (sh:List V),vs=[.ref kt,.ref st]∧H kt=some (.tup (kinds.map V.str))∧H st=some (.tup sh)∧Kinds kinds∧jy kinds sh∧∀(t:Addr) (ds:List V) (H':Hp),ak H H'→H' t=some (.tup ds)→Q (.ref t) H'
noncomputable def isT (z:Str):Bool:=decide (z.cps.toList.head?=some 116)
noncomputable def tc (zs:List Str):Nat:=(zs.filter isT).length
theorem qk (xs ys:List Str):tc (xs++ys)=tc xs+tc ys:=by
 unfold tc;rw[List.filter_append,List.length_append]
noncomputable def bw (kinds:List Str) (vs:List V):Nat:=(vs.filter λv=>!inV v (kinds.map V.str)).length
theorem lb (kinds:List Str) (xs ys:List V):bw kinds (xs++ys)=bw kinds xs+bw kinds ys:=by
 unfold bw;rw[List.filter_append,List.length_append]
theorem ve {kinds:List Str} (hk:Kinds kinds):∀(xs:List V) (l m:Nat),(∀v∈xs,isW v)→pend l (xs.map arV)=some m→m≤l+bw kinds xs
 | [],l,m,_,h=>by
  have:l=m:=Option.some.inj h;¡
 | v::r,0,m,_,h=>by cases h
 | v::r,l+1,m,hw,h=>by
  ¤h:pend (l+arV v) (r.map arV)=some m:=h;¤ih:=ve hk r _ _ (λx hx=>hw x (List.mem_cons_of_mem _ hx)) h;¤e:bw kinds (v::r)=bw kinds [v]+bw kinds r:=lb kinds [v] r;¤a2:=uw v;rcases Nat.eq_zero_or_pos (arV v) with h0 | h0
  ·¡
  ·have:bw kinds [v]=1:=by
    unfold bw;rcases gh (kinds:=kinds) (hw v List.mem_cons_self) with ⟨rfl,_⟩ | ⟨rfl,_⟩ | ⟨⟨z,hz,rfl⟩,_⟩ | ⟨_,hno⟩
    ·rw[wk] at h0;cases h0
    ·rw[ui] at h0;cases h0
    ·have:=(hk z hz).1;¤h0:0 < arS z:=h0;¡
    ·rw[List.filter_cons,hno];rfl
   ¡
theorem Dw {n:Nat} (h:n≤11):(Gk (.int (n:Int))).length≤2∧wordV (.int (n:Int)):=by
 ¤a:∀n:Fin 12,(Gk (.int ((n.1:Nat):Int))).length≤2:=by decide+kernel
 ¤b:∀n:Fin 12,(((n.1:Nat):Int)).natAbs.log2 < 1920:=by decide+kernel
 §⟨a ⟨n,¥⟩,b ⟨n,¥⟩⟩
structure DI (kinds:List Str) (sh:List V) (p:Nat) (zs fs:List Str):Prop where
 pd:pend zs.length ((sh.drop p).map arV)=some 0
 bf:pend 1 ((sh.take p).map arV)=some zs.length
 three:fs.length+tc zs=3
 un:tc zs≤bw kinds (sh.drop p)
 zl:∀z∈zs,1≤z.length∧z.length≤100
 fl:∀z∈fs,isT z=true∧1≤z.length∧z.length≤100
theorem DI.start {kinds:List Str} {sh:List V} (h:jy kinds sh):DI kinds sh sh.length [] [Str.ofString "t3",Str.ofString "t2",Str.ofString "t1"]:=by
 ¶⟨by rw[List.drop_length];rfl,by rw[List.take_length];§h.one,rfl,Nat.zero_le _,(λ_ h=>nomatch h),λz hz=>?_⟩;simp only[List.mem_cons,List.not_mem_nil,or_false] at hz;rcases hz with rfl | rfl | rfl <;> decide+kernel
theorem DI.less {kinds:List Str} {sh:List V} {p:Nat} {zs fs:List Str} (h:DI kinds sh (p+1) zs fs) {v:V} (hv:sh[p]?=some v):arV v≤zs.length∧pend (zs.length - arV v+1) ((sh.drop p).map arV)=some 0∧pend 1 ((sh.take p).map arV)=some (zs.length - arV v+1)∧sh.drop p=v::sh.drop (p+1):=by
 ¤hp:p < sh.length:=(List.getElem?_eq_some_iff.mp hv).1;¤ed:sh.drop p=v::sh.drop (p+1):=by
  rw[List.drop_eq_getElem_cons hp];congr 1
  rw[List.getElem?_eq_getElem hp] at hv;§Option.some.inj hv
 ¤et:sh.take (p+1)=sh.take p++[v]:=by rw[List.take_add_one,hv];rfl
 ¤bf:=h.bf;rw[et,List.map_append,o8] at bf;cases hq:pend 1 ((sh.take p).map arV) with
 | none=>rw[hq] at bf;cases bf
 | some m=>
  rw[hq] at bf;¤bf:pend m [arV v]=some zs.length:=bf;cases m with
  | zero=>cases bf
  | succ m=>
   rw[Ci _ _ (Nat.succ_pos _)] at bf;¤e:=Option.some.inj bf;¤hm:m+1=zs.length - arV v+1:=by ¡
   ¶⟨¥,?_,by rw[hm],ed⟩;rw[ed,List.map_cons];show pend (zs.length - arV v+arV v) ((sh.drop (p+1)).map arV)=some 0
   rw[show zs.length - arV v+arV v=zs.length by ¡];§h.pd
theorem DI.hole {kinds:List Str} {sh:List V} {p:Nat} {zs fs:List Str} (h:DI kinds sh (p+1) zs fs) {v:V} (hv:sh[p]?=some v) (a0:arV v=0) {z:Str} (hz:isT z=false) (hl:1≤z.length∧z.length≤100):DI kinds sh p (zs++[z]) fs:=by
 £⟨_,h2,h3,ed⟩:=h.less hv;rw[a0,Nat.sub_zero] at h2 h3;¤tz:tc (zs++[z])=tc zs:=by
  rw[qk];unfold tc;rw[List.filter_cons,hz];rfl
 ¶⟨by rw[List.length_append];§h2,by rw[List.length_append];§h3,by rw[tz];§h.three,?_,λy hy=>?_,h.fl⟩
 ·rw[tz,ed];have:=lb kinds [v] (sh.drop (p+1));¤e:bw kinds (v::sh.drop (p+1))=bw kinds [v]+bw kinds (sh.drop (p+1)):=this;have:=h.un;¡
 ·rcases List.mem_append.mp hy with g | g
  ·§h.zl y g
  ·rw[List.mem_singleton.mp g];§hl
theorem DI.put {kinds:List Str} {sh:List V} {p:Nat} {zs fs zs0 rd:List Str} (hk:Kinds kinds) (ok:jy kinds sh) (h:DI kinds sh (p+1) zs fs) {v:V} (hv:sh[p]?=some v) (hn:inV v (kinds.map V.str)=false) (e:zs=zs0++rd) (hr:rd.length=arV v):
  (∀z fs2,fs2.length+1=fs.length+tc rd→isT z=true→1≤z.length→z.length≤100→(∀y∈fs2,isT y=true∧1≤y.length∧y.length≤100)→DI kinds sh p (zs0++[z]) fs2)∧
  (∀z fs2,fs2.length=fs.length+tc rd→isT z=false→1≤z.length→z.length≤100→(∀y∈fs2,isT y=true∧1≤y.length∧y.length≤100)→DI kinds sh p (zs0++[z]) fs2)∧(0 < p→1≤fs.length+tc rd):=by
 £⟨h1,h2,h3,ed⟩:=h.less hv;subst e;rw[List.length_append,hr,Nat.add_sub_cancel] at h2 h3;¤th:=h.three;¤un:=h.un;rw[qk] at th un;¤uv:bw kinds (sh.drop p)=1+bw kinds (sh.drop (p+1)):=by
  rw[ed];have:=lb kinds [v] (sh.drop (p+1));¤e1:bw kinds [v]=1:=by
   unfold bw;rw[List.filter_cons,hn];rfl
  ¤e:bw kinds (v::sh.drop (p+1))=bw kinds [v]+bw kinds (sh.drop (p+1)):=this;¡
 ¤zl0:∀y∈zs0,1≤y.length∧y.length≤100:=λy hy=>h.zl y (List.mem_append_left _ hy);¶⟨λz fs2 hf hz l1 l2 hfl=>⟨by rw[List.length_append];§h2,by rw[List.length_append];§h3,?_,?_,λy hy=>?_,hfl⟩,λz fs2 hf hz l1 l2 hfl=>⟨by rw[List.length_append];§h2,by rw[List.length_append];§h3,?_,?_,λy hy=>?_,hfl⟩,λhp=>?_⟩
 ·rw[qk,show tc [z]=1 by unfold tc;rw[List.filter_cons,hz];rfl];¡
 ·rw[qk,show tc [z]=1 by unfold tc;rw[List.filter_cons,hz];rfl,uv];¡
 ·rcases List.mem_append.mp hy with g | g
  ·§zl0 y g
  ·rw[List.mem_singleton.mp g];§⟨l1,l2⟩
 ·rw[qk,show tc [z]=0 by unfold tc;rw[List.filter_cons,hz];rfl];¡
 ·rw[qk,show tc [z]=0 by unfold tc;rw[List.filter_cons,hz];rfl,uv];¡
 ·rcases List.mem_append.mp hy with g | g
  ·§zl0 y g
  ·rw[List.mem_singleton.mp g];§⟨l1,l2⟩
 ·¤u5:=ok.few;¤hs:bw kinds sh≤5:=u5;¤es:bw kinds sh=bw kinds (sh.take p)+bw kinds (sh.drop p):=by
   rw[←lb,List.take_append_drop]
  ¤pu:=ve hk (sh.take p) 1 _ (λx hx=>ok.w x (List.mem_of_mem_take hx)) h3;¤tl:tc zs0≤zs0.length:=List.length_filter_le _ _;¡
theorem Qd {kinds:List Str} (hk:Kinds kinds) {v:V} (hv:isW v) (h:inV v (kinds.map V.str)=true):arV v=0:=by
 £⟨b1,b2,b3,_,_,_⟩:=lets;rcases gh (kinds:=kinds) hv with ⟨rfl,_⟩ | ⟨rfl,_⟩ | ⟨⟨z,hz,rfl⟩,_⟩ | ⟨_,hno⟩
 ·§wk
 ·§ui
 ·§(hk z hz).1
 ·rw[hno] at h;cases h
theorem ir (a b:Str):(a++b).cps.toList=a.cps.toList++b.cps.toList:=by
 show (a.cps++b.cps).toList=_
 §Array.toList_append
theorem isT_h (tx:Str):isT (Str.ofString "h"++tx)=false:=by
 unfold isT;rw[ir,show (Str.ofString "h").cps.toList=[104] by decide+kernel];rfl
theorem Nd:isT (Str.ofString "out")=false:=by decide+kernel
theorem M8 {z:Str} (h:1≤z.length):∃c,atI z.cps.toList 0=some c∧((V.str ⟨#[c]⟩=V.str (Str.ofString "t"))↔isT z=true):=by
 ¤hl:z.cps.toList.length=z.length:=rfl;cases e:z.cps.toList with
 | nil=>rw[e] at hl;simp at hl;¡
 | cons c r=>
  ¶⟨c,bo (j:=0) rfl,?_⟩;unfold isT;rw[e];¤et:Str.ofString "t"=⟨#[116]⟩:=by decide+kernel
  rw[et];constructor
  ·¿h;have:(#[c]:Array Nat)=#[116]:=congrArg Str.cps (V.str.inj h);have:c=116:=by simpa using this
   subst this;rfl
  ·¿h;have:c=116:=by simpa using h
   subst this;rfl
theorem Hm {v:V} (hv:isW v):((if inV v [V.str "add",V.str "sub",V.str "mul",V.str "neg"]=true then (1:Int) else 0)+if inV v [V.str "add",V.str "sub",V.str "mul"]=true then 1 else 0)=(arV v:Int):=by
 ¤three:=Ap hv;¤four:=zv hv;¤a2:=uw v;¦c:0 < arV v
 ·rw[if_pos (four.mpr c)];¦c2:arV v=2
  ·rw[if_pos (three.mpr c2)];¡
  ·rw[if_neg λe=>c2 (three.mp e)];¡
 ·rw[if_neg λe=>c (four.mp e),if_neg λe=>by have:=three.mp e;¡];¡
def y4:Sp:=λvs H Q _=>∃(d nl b:Addr) (ns:List Int) (zs:List Str) (n:Nat),vs=[.ref d,.ref nl]∧cu H d b ns n∧cg H nl zs∧n≤1000∧∀(bt:Addr) (n':Nat) (H':Hp) (kinds:List Str) (rs:List Rl),aq d H H'→H' d=some (.lst [.ref b,.int (n':Int)])→n'≤n+1000→cy H' bt kinds rs→Bk kinds rs→1≤rs.length→Q (.ref bt) H'
def gf (H:Hp) (sa:List Addr) (kinds:List Str) (ps:List (Str×List V)):Prop:=sa.length=ps.length∧∀(i:Nat) (k:Str) (sh:List V),ps[i]?=some (k,sh)→(jy kinds sh∧k∈kinds)∧∃a s:Addr,sa[i]?=some a∧H a=some (.tup [.str k,.ref s])∧H s=some (.tup sh)
theorem gf.nil (H:Hp) (kinds:List Str):gf H [] kinds []:=⟨rfl,λi k sh h=>by simp at h⟩
theorem gf.b8 {H H':Hp} {d b:Addr} {ns:List Int} {n:Nat} {sa:List Addr} {kinds:List Str} {ps:List (Str×List V)} (h:gf H sa kinds ps) (hD:cu H d b ns n) (s:aq d H H'):gf H' sa kinds ps:=⟨h.1,λi k sh hi=>by
 £⟨ok,a,t,h1,h2,h3⟩:=h.2 i k sh hi;§⟨ok,a,t,h1,s _ _ (df h2 hD.1 (by ¿e;cases e)) h2,s _ _ (df h3 hD.1 (by ¿e;cases e)) h3⟩⟩
theorem gf.same {H H':Hp} {sa:List Addr} {kinds:List Str} {ps:List (Str×List V)} (h:gf H sa kinds ps) (s:ak H H'):gf H' sa kinds ps:=⟨h.1,λi k sh hi=>by
 £⟨ok,a,t,h1,h2,h3⟩:=h.2 i k sh hi;§⟨ok,a,t,h1,s _ _ h2,s _ _ h3⟩⟩
theorem gf.snoc {H:Hp} {sa:List Addr} {kinds:List Str} {ps:List (Str×List V)} (h:gf H sa kinds ps) {a s:Addr} {k:Str} {sh:List V} (ok:jy kinds sh∧k∈kinds) (h1:H a=some (.tup [.str k,.ref s])) (h2:H s=some (.tup sh)):gf H (sa++[a]) kinds (ps++[(k,sh)]):=by
 ¶⟨by rw[List.length_append,List.length_append,h.1];rfl,λi k' sh' hi=>?_⟩;¦c:i < ps.length
 ·rw[List.getElem?_append_left c] at hi;£⟨ok',a',t',g1,g2,g3⟩:=h.2 i k' sh' hi;§⟨ok',a',t',by rw[List.getElem?_append_left (by rw[h.1];§c)];§g1,g2,g3⟩
 ·rw[List.getElem?_append_right ¥] at hi;¤hz:i - ps.length=0:=by
   rcases Nat.eq_zero_or_pos (i - ps.length) with g | g
   ·§g
   ·rw[List.getElem?_eq_none (by rw[List.length_singleton];¡)] at hi;cases hi
  rw[hz] at hi;cases hi
  §⟨ok,a,s,by rw[List.getElem?_append_right (by rw[h.1];¡),h.1,hz];rfl,h1,h2⟩
theorem G8 {kinds:List Str} (hk:Kinds kinds) {z:Str} (hz:z∈kinds):jy kinds [.str z]:=by
 ¶⟨λv hv=>by rw[List.mem_singleton.mp hv];§⟨Sum.inr z,rfl⟩,?_,by show (1:Nat)≤11;decide,Nat.le_trans (List.length_filter_le _ _) (by show (1:Nat)≤5;decide)⟩;show pend 1 [arS z]=some 0
 rw[(hk z hz).1];rfl
theorem Ly (kinds:List Str):jy kinds [ig]:=⟨λv hv=>by rw[List.mem_singleton.mp hv];§⟨Sum.inr _,rfl⟩,by show pend 1 [arV ig]=some 0;rw[wk];rfl,by show (1:Nat)≤11;decide,Nat.le_trans (List.length_filter_le _ _) (by show (1:Nat)≤5;decide)⟩
theorem J1 (kinds:List Str):jy kinds [gq]:=⟨λv hv=>by rw[List.mem_singleton.mp hv];§⟨Sum.inr _,rfl⟩,by show pend 1 [arV gq]=some 0;rw[ui];rfl,by show (1:Nat)≤11;decide,Nat.le_trans (List.length_filter_le _ _) (by show (1:Nat)≤5;decide)⟩
theorem Mz {kinds:List Str} (hk:Kinds kinds) {z:Str} (hz:z∈kinds):jy kinds [.str (Str.ofString "add"),.str z,.str z]:=by
 ¶⟨λv hv=>?_,?_,by show (3:Nat)≤11;decide,Nat.le_trans (List.length_filter_le _ _) (by show (3:Nat)≤5;decide)⟩
 ·simp only[List.mem_cons,List.not_mem_nil,or_false] at hv;rcases hv with rfl | rfl | rfl <;> §⟨Sum.inr _,rfl⟩
 ·show pend 1 [arS (Str.ofString "add"),arS z,arS z]=some 0
  rw[(hk z hz).1,show arS (Str.ofString "add")=2 by decide+kernel];rfl
theorem Lm {kinds:List Str} (hk:Kinds kinds) {z:Str} (hz:z∈kinds):jy kinds [.str (Str.ofString "neg"),.str z]:=by
 ¶⟨λv hv=>?_,?_,by show (2:Nat)≤11;decide,Nat.le_trans (List.length_filter_le _ _) (by show (2:Nat)≤5;decide)⟩
 ·simp only[List.mem_cons,List.not_mem_nil,or_false] at hv;rcases hv with rfl | rfl <;> §⟨Sum.inr _,rfl⟩
 ·show pend 1 [arS (Str.ofString "neg"),arS z]=some 0
  rw[(hk z hz).1,show arS (Str.ofString "neg")=1 from Am];rfl
end Pc
namespace Pc
open PySem PySem.Spec L2 PyProof.Rows
theorem fj.keep {H H':Hp} {a:Addr} {r:Rl} (h:fj H a r) (t:∀{a:Addr} {xs:List V},H a=some (.tup xs)→H' a=some (.tup xs)):fj H' a r:=by
 £⟨sa,da,ds,h1,h2,h3⟩:=h;§⟨sa,da,ds,t h1,t h2,t h3⟩
theorem dk.keep {H H':Hp} {ra:List Addr} {rs:List Rl} (h:dk H ra rs) (t:∀{a:Addr} {xs:List V},H a=some (.tup xs)→H' a=some (.tup xs)):dk H' ra rs:=⟨h.1,λi r hr=>by
 £⟨a,h1,h2⟩:=h.2 i r hr;§⟨a,h1,h2.keep t⟩⟩
theorem gf.keep {H H':Hp} {sa:List Addr} {kinds:List Str} {ps:List (Str×List V)} (h:gf H sa kinds ps) (t:∀{a:Addr} {xs:List V},H a=some (.tup xs)→H' a=some (.tup xs)):gf H' sa kinds ps:=⟨h.1,λi k sh hi=>by
 £⟨ok,a,s,h1,h2,h3⟩:=h.2 i k sh hi;§⟨ok,a,s,h1,t h2,t h3⟩⟩
theorem dv {H H':Hp} {d b:Addr} {ns:List Int} {n:Nat} (hD:cu H d b ns n) (s:aq d H H') {a:Addr} {xs:List V} (h:H a=some (.tup xs)):H' a=some (.tup xs):=s _ _ (df h hD.1 (by ¿e;cases e)) h
theorem dk.snoc {H:Hp} {ra:List Addr} {rs:List Rl} (h:dk H ra rs) {a:Addr} {r:Rl} (hr:fj H a r):dk H (ra++[a]) (rs++[r]):=by
 ¶⟨by rw[List.length_append,List.length_append,h.1];rfl,λi r' hi=>?_⟩;¦c:i < rs.length
 ·rw[List.getElem?_append_left c] at hi;£⟨a',g1,g2⟩:=h.2 i r' hi;§⟨a',by rw[List.getElem?_append_left (by rw[h.1];§c)];§g1,g2⟩
 ·rw[List.getElem?_append_right ¥] at hi;¤hz:i - rs.length=0:=by
   rcases Nat.eq_zero_or_pos (i - rs.length) with g | g
   ·§g
   ·rw[List.getElem?_eq_none (by rw[List.length_singleton];¡)] at hi;cases hi
  rw[hz] at hi;cases hi
  §⟨a,by rw[List.getElem?_append_right (by rw[h.1];¡),h.1,hz];rfl,hr⟩
theorem dk.rot {H:Hp} {ra:List Addr} {rs:List Rl} (h:dk H ra rs) (k:Nat):dk H (ra.drop k++ra.take k) (rs.drop k++rs.take k):=by
 ¤h1:=h.1;¶⟨by rw[List.length_append,List.length_append,List.length_drop,List.length_drop,List.length_take,List.length_take,h1],λi r hi=>?_⟩;¦c:i < rs.length - k
 ·rw[List.getElem?_append_left (by rw[List.length_drop];§c),List.getElem?_drop] at hi;rw[List.getElem?_append_left (by rw[List.length_drop,h1];§c),List.getElem?_drop];§h.2 _ r hi
 ·rw[List.getElem?_append_right (by rw[List.length_drop];¡),List.length_drop] at hi;rw[List.getElem?_append_right (by rw[List.length_drop,h1];¡),List.length_drop,h1];¦c2:i - (rs.length - k) < k
  ·rw[List.getElem?_take_of_lt c2] at hi;rw[List.getElem?_take_of_lt c2];§h.2 _ r hi
  ·rw[List.getElem?_eq_none (by rw[List.length_take];¡)] at hi;cases hi
theorem bk_rot {kinds zs:List Str} {rs:List Rl} (hk:Kinds kinds) (kn:kinds.Nodup) (kl:kinds.length≤60) (nd:zs.Nodup) (e:rs.map (·.name)=(zs.drop 8).take rs.length) (so:∀r∈rs,jy kinds r.shape∧1≤r.price∧r.kind∈kinds) (hl:rs.length≤40) (k:Nat):Bk kinds (rs.drop k++rs.take k):=by
 ¤hp:(rs.drop k++rs.take k).Perm rs:=List.perm_append_comm.trans (by rw[List.take_append_drop]);¶⟨hk,(hp.map (·.name)).nodup_iff.mpr ?_,λr hr=>?_,by rw[hp.length_eq];¡,kn,kl,λr hr=>(so r (hp.mem_iff.mp hr)).2.1,λr hr=>(so r (hp.mem_iff.mp hr)).2.2⟩
 ·rw[e];§(nd.sublist (List.drop_sublist 8 zs)).sublist (List.take_sublist _ _)
 ·¤o:=(so r (hp.mem_iff.mp hr)).1;§⟨o.w,o.one,by have:=o.len;¡⟩
theorem Ei {zs:List Str} {rs:List Rl} {r:Rl} {i:Nat} (e:rs.map (·.name)=(zs.drop 8).take i) (hz:zs[8+i]?=some r.name):(rs++[r]).map (·.name)=(zs.drop 8).take (i+1):=by
 rw[List.map_append,e,List.take_add_one,List.getElem?_drop,hz];rfl
end Pc
namespace Pc
open PySem PySem.Spec L2 PyProof.Rows
def oo:Sp:=λvs H Q _=>∃(d b:Addr) (ns:List Int) (n:Nat),vs=[.ref d]∧cu H d b ns n∧n≤1000∧∀(l:Addr) (H':Hp) (zs:List Str),aq d H H'→H' d=some (.lst [.ref b,.int ((n+1:Nat):Int)])→cg H' l zs→Q (.ref l) H'
noncomputable abbrev Bx:Str:=Str.ofString "abcdefghijklmnopqrstuvwxyz"
noncomputable def ltr (i:Int):Str:=⟨#[97+(i % 26).toNat]⟩
theorem gr (i:Int):(ltr i).cps.toList=[97+(i % 26).toNat]:=rfl
theorem dq (i:Int):(ltr i).length=1:=rfl
theorem ltr_at (i:Int):atI Bx.cps.toList (i % 26)=some (97+(i % 26).toNat):=by
 ¤a:∀j:Fin 26,Bx.cps.toList[j.1]?=some (97+j.1):=by decide+kernel
 £⟨j,hj,e⟩:∃j:Nat,j < 26∧i % 26=(j:Int):=⟨(i % 26).toNat,¥,¥⟩;rw[e,Int.toNat_natCast];§bo (a ⟨j,hj⟩)
theorem gy {i:Int} {H:Hp} {Q:VK} (q:Q (.str (ltr i)) H):rIxS (.str Bx) (.int (i % 26)) H Q:=
 ⟨Bx,i % 26,_,rfl,rfl,by rw[sizeLine_eq];decide+kernel,ltr_at i,q⟩
noncomputable def d4:List Str:=["add","sub","mul","neg","any","var","put","load","out"]
noncomputable def ownC:List (List Nat):=d4.map λz=>z.cps.toList
theorem qe {a b:Str} (h:a.cps.toList=b.cps.toList):a=b:=by
 cases a;cases b
 congr 1
 §Array.toList_inj.mp h
theorem qq {z:Str}:z∈d4↔z.cps.toList∈ownC:=by
 unfold ownC;constructor
 ·§λh=>List.mem_map.mpr ⟨z,h,rfl⟩
 ·¿h;£⟨y,hy,e⟩:=List.mem_map.mp h;rw[←qe e];§hy
theorem own_ok {z:Str} (h:z∉d4):nmOk z:=by
 ¶⟨?_,λe=>h ?_,λe=>h ?_⟩
 ·rcases Nat.eq_zero_or_pos (arS z) with g | g
  ·§g
  ·exfalso
   apply h
   rcases qw g with rfl | rfl | rfl | rfl
   ·§List.mem_cons_self
   ·§List.mem_cons_of_mem _ List.mem_cons_self
   ·§List.mem_cons_of_mem _ (List.mem_cons_of_mem _ List.mem_cons_self)
   ·§List.mem_cons_of_mem _ (List.mem_cons_of_mem _ (List.mem_cons_of_mem _ List.mem_cons_self))
 ·rw[V.str.inj (show V.str z=V.str (Str.ofString "any") from e)];decide+kernel
 ·rw[V.str.inj (show V.str z=V.str (Str.ofString "var") from e)];decide+kernel
noncomputable def nm0 (m:Int) (tail:Str) (k:Nat):Str:=ltr (m+(k:Int))++ltr (m / 7+(k:Int) / 26)++tail
noncomputable def nm1 (m:Int) (k:Nat):Str:=d4.getD (((k:Int)+m) % 9).toNat ""++ltr (m / 9+(k:Int) / 9)
noncomputable def nm2 (m:Int) (k:Nat):Str:=n6 (ltr m) (1+(k:Int) % 3).toNat++n6 (ltr (m+1)) ((k:Int) / 3 % 4).toNat++ltr (m+2+(k:Int) / 12)
noncomputable def rf (m:Int):Str:=n6 (ltr (m / 26)) (m / 676 % 6).toNat
noncomputable def nmX (c:Int) (k:Nat):Str:=if c % 3=2 then nm2 (c / 3) k else if c % 3=1 then nm1 (c / 3) k else nm0 (c / 3) (rf (c / 3)) k
noncomputable def nmP (c:Int) (k:Nat):Str:=if nmX c k∈d4 then nmX c k++"xq" else nmX c k
theorem lu (i:Int) (n:Nat):(n6 (ltr i) n).cps.toList=List.replicate n (97+(i % 26).toNat):=by
 rw[Em,gr];induction n with
 | zero=>rfl
 | succ n ih=>rw[List.replicate_succ,List.flatten_cons,ih,List.replicate_succ];rfl
theorem Ir (m:Int) (t:Str) (k:Nat):(nm0 m t k).cps.toList=(97+((m+(k:Int)) % 26).toNat)::(97+((m / 7+(k:Int) / 26) % 26).toNat)::t.cps.toList:=by
 unfold nm0;rw[ir,ir,gr,gr];rfl
theorem add_mod {n a b c:Int} (h:(a+b) % n=(a+c) % n):(b - c) % n=0:=by
 ¤h:=Int.emod_eq_emod_iff_emod_sub_eq_zero.mp h;rw[show a+b - (a+c)=b - c by ¡] at h;§h
theorem ue {a b:Int} {n:Nat} (hn:0 < n) (h:97+(a % (n:Int)).toNat=97+(b % (n:Int)).toNat):a % (n:Int)=b % (n:Int):=by
 ¤h1:=Int.emod_nonneg a (show (n:Int)≠0 by ¡);¤h2:=Int.emod_nonneg b (show (n:Int)≠0 by ¡);generalize a % (n:Int)=x at h h1;generalize b % (n:Int)=y at h h2;¡
theorem Pl {m:Int} {t:Str} {k k':Nat} (h:k < 60) (h':k' < 60) (e:nm0 m t k=nm0 m t k'):k=k':=by
 ¤e:=congrArg (λz:Str=>z.cps.toList) e;simp only[Ir,List.cons.injEq] at e;£⟨e1,e2,_⟩:=e;¤a1:=add_mod (ue (n:=26) (by decide) e1);¤a2:=add_mod (ue (n:=26) (by decide) e2);clear e1 e2;¡
theorem Ip:d4.Nodup:=by decide+kernel
theorem Py {m:Int} {k k':Nat} (h:k < 60) (h':k' < 60) (e:nm1 m k=nm1 m k'):k=k':=by
 unfold nm1 at e;¤e:=congrArg (λz:Str=>z.cps.toList) e;simp only[ir,gr] at e;£⟨e1,e2⟩:=List.append_inj' e rfl;¤e1:=qe e1;¤b1:(((k:Int)+m) % 9).toNat < d4.length:=by show _ < 9;¡
 ¤b2:(((k':Int)+m) % 9).toNat < d4.length:=by show _ < 9;¡
 rw[List.getD_eq_getElem?_getD,List.getD_eq_getElem?_getD,List.getElem?_eq_getElem b1,List.getElem?_eq_getElem b2] at e1;¤e3:=(List.getElem_inj Ip).mp (show d4[(((k:Int)+m) % 9).toNat]=d4[(((k':Int)+m) % 9).toNat] from e1);simp only[List.cons.injEq,and_true] at e2;¤a2:=add_mod (ue (n:=26) (by decide) e2);¤h1:=Int.emod_nonneg ((k:Int)+m) (show (9:Int)≠0 by decide);¤h2:=Int.emod_nonneg ((k':Int)+m) (show (9:Int)≠0 by decide);¤e4:((k:Int)+m) % 9=((k':Int)+m) % 9:=by
  generalize ((k:Int)+m) % 9=x at e3 h1;generalize ((k':Int)+m) % 9=y at e3 h2;clear a2 h h';¡
 rw[Int.add_comm,Int.add_comm (k':Int)] at e4;¤a1:=add_mod e4;clear e1 e2 e3 e4 b1 b2 h1 h2 e;¡
theorem yh (m:Int) (k:Nat):(nm2 m k).cps.toList=List.replicate (1+(k:Int) % 3).toNat (97+(m % 26).toNat)++(List.replicate ((k:Int) / 3 % 4).toNat (97+((m+1) % 26).toNat)++[97+((m+2+(k:Int) / 12) % 26).toNat]):=by
 unfold nm2;rw[ir,ir,lu,lu,gr,List.append_assoc]
theorem P7 {m:Int} {k k':Nat} (h:k < 60) (h':k' < 60) (e:nm2 m k=nm2 m k'):k=k':=by
 ¤e:=congrArg (λz:Str=>z.cps.toList) e;simp only[yh] at e;¤ab:97+((m+1) % 26).toNat≠97+(m % 26).toNat:=by ¡
 ¤ac:∀k:Nat,k < 60→97+((m+2+(k:Int) / 12) % 26).toNat≠97+(m % 26).toNat:=λk h=>by ¡
 ¤bc:∀k:Nat,k < 60→97+((m+2+(k:Int) / 12) % 26).toNat≠97+((m+1) % 26).toNat:=λk h=>by ¡
 ¤c1:=congrArg (List.count (97+(m % 26).toNat)) e;¤c2:=congrArg (List.count (97+((m+1) % 26).toNat)) e;¤c3:=congrArg List.getLast? e;rw[List.count_append,List.count_append,List.count_append,List.count_append,List.count_replicate_self,List.count_replicate_self,List.count_replicate,List.count_replicate,List.count_singleton,List.count_singleton,if_neg (by simpa using ab),if_neg (by simpa using ac k h),if_neg (by simpa using ab),if_neg (by simpa using ac k' h')] at c1;rw[List.count_append,List.count_append,List.count_append,List.count_append,List.count_replicate_self,List.count_replicate_self,List.count_replicate,List.count_replicate,List.count_singleton,List.count_singleton,if_neg (by simpa using ab.symm),if_neg (by simpa using bc k h),if_neg (by simpa using ab.symm),if_neg (by simpa using bc k' h')] at c2;rw[←List.append_assoc,←List.append_assoc,List.getLast?_concat,List.getLast?_concat] at c3;¤c3:=Option.some.inj c3;rw[Int.add_assoc,Int.add_assoc m 2] at c3;¤a3:=add_mod (ue (n:=26) (by decide) c3);clear c3 ab ac bc e;¡
theorem Oo (m:Int) (k:Nat):nm1 m k∉d4:=by
 ¿h;¤h:=qq.mp h;unfold nm1 at h;¤b1:(((k:Int)+m) % 9).toNat < d4.length:=by show _ < 9;¡
 rw[ir,gr,List.getD_eq_getElem?_getD,List.getElem?_eq_getElem b1] at h;¤a:∀x∈ownC,x.dropLast∉ownC:=by decide+kernel
 apply a _ h
 rw[List.dropLast_concat];§qq.mp (List.getElem_mem b1)
theorem Og {m:Int} {k:Nat} (hk:k < 60):nm2 m k∉d4:=by
 ¿h;¤h:=qq.mp h;rw[yh] at h;¤a:∀x∈ownC,3≤x.length∧x.getD 1 0≠x.getD 0 0∧x.getD 1 0≠x.getD 0 0+1∧(x.getD 0 0=122→False):=by decide+kernel
 £⟨i,hi⟩:∃i,(1+(k:Int) % 3).toNat=i+1:=⟨((k:Int) % 3).toNat,¥⟩;£⟨a1,a2,a3,a4⟩:=a _ h;rw[hi,List.replicate_succ] at a1 a2 a3 a4;cases i with
 | succ i=>
  rw[List.replicate_succ] at a2;§a2 rfl
 | zero=>
  cases hj:((k:Int) / 3 % 4).toNat with
  | zero=>
   rw[hj] at a1;simp at a1
  | succ j=>
   rw[hj,List.replicate_succ] at a3;simp at a3 a4;¡
theorem Aj {z:Str} (h:z∈d4):z.length≤4∧3≤z.length:=by
 ¤a:∀z∈d4,z.length≤4∧3≤z.length:=by decide+kernel
 §a z h
theorem Di:(Str.length "xq")=2:=by decide+kernel
theorem Fj {c:Int} {k k':Nat} (h:k < 60) (h':k' < 60) (e:nmX c k=nmX c k'):k=k':=by
 unfold nmX at e;¦c2:c % 3=2
 ·rw[if_pos c2,if_pos c2] at e;§P7 h h' e
 rw[if_neg c2,if_neg c2] at e;¦c1:c % 3=1
 ·rw[if_pos c1,if_pos c1] at e;§Py h h' e
 rw[if_neg c1,if_neg c1] at e;§Pl h h' e
theorem G4 {c:Int} {k:Nat} (h:k < 60) (e:nmX c k∈d4) (j:Nat):(nmX c j).length=(nmX c k).length:=by
 unfold nmX at e ⊢;¦c2:c % 3=2
 ·rw[if_pos c2] at e;§absurd e (Og h)
 rw[if_neg c2] at e;rw[if_neg c2,if_neg c2];¦c1:c % 3=1
 ·rw[if_pos c1] at e;§absurd e (Oo _ _)
 rw[if_neg c1,if_neg c1];unfold nm0;rw[Str.length_append,Str.length_append,Str.length_append,Str.length_append,dq,dq,dq,dq]
theorem P4 {c:Int} {k k':Nat} (h:k < 60) (h':k' < 60) (e:nmP c k=nmP c k'):k=k':=by
 unfold nmP at e;¤x2:=Di;¦o:nmX c k∈d4
 ·rw[if_pos o] at e;¤l1:=G4 h o k';¤e2:=congrArg Str.length e;¦o':nmX c k'∈d4
  ·rw[if_pos o'] at e;¤e:=congrArg (λz:Str=>z.cps.toList) e;simp only[ir] at e;§Fj h h' (qe (List.append_inj' e rfl).1)
  ·rw[if_neg o',Str.length_append] at e2;¡
 ·rw[if_neg o] at e;¦o':nmX c k'∈d4
  ·¤l1:=G4 h' o' k;rw[if_pos o'] at e;¤e2:=congrArg Str.length e;rw[Str.length_append] at e2;¡
  ·rw[if_neg o'] at e;§Fj h h' e
theorem nmP_ok (c:Int) (k:Nat):nmOk (nmP c k):=by
 apply own_ok
 unfold nmP;¦o:nmX c k∈d4
 ·rw[if_pos o];¿h;¤a:=(Aj h).1;¤b:=(Aj o).2;rw[Str.length_append,Di] at a;¡
 ·rw[if_neg o];§o
theorem Eu {H:Hp} {l:Addr} {c:Int} (h:H l=some (.lst ((List.range 60).map λk=>V.str (nmP c k)))):cg H l ((List.range 60).map (nmP c)):=by
 ¶⟨by rw[List.map_map];§h,by rw[List.length_map,List.length_range],?_,λz hz=>?_⟩
 ·¶List.pairwise_map.mpr (List.Pairwise.imp_of_mem ?_ List.nodup_range);¿a b ha hb n e;§n (P4 (List.mem_range.mp ha) (List.mem_range.mp hb) e)
 ·£⟨k,_,rfl⟩:=List.mem_map.mp hz;§nmP_ok c k
theorem Fe (m m':Int) (k:Nat):(nm0 m (rf m') k).length≤100:=by
 unfold nm0 rf;rw[Str.length_append,Str.length_append,dq,dq];¤e:(n6 (ltr (m' / 26)) (m' / 676 % 6).toNat).length=(n6 (ltr (m' / 26)) (m' / 676 % 6).toNat).cps.toList.length:=rfl;rw[e,lu,List.length_replicate];¡
theorem lh (i:Int) (n:Nat):(n6 (ltr i) n).length=n:=by
 ¤e:(n6 (ltr i) n).length=(n6 (ltr i) n).cps.toList.length:=rfl;rw[e,lu,List.length_replicate]
theorem Gz (m:Int) (k:Nat):(nm1 m k).length≤100:=by
 unfold nm1;¤b1:(((k:Int)+m) % 9).toNat < d4.length:=by show _ < 9;¡
 rw[Str.length_append,dq,List.getD_eq_getElem?_getD,List.getElem?_eq_getElem b1];have:=(Aj (List.getElem_mem b1)).1;show (d4[(((k:Int)+m) % 9).toNat]).length+1≤100
 ¡
theorem Ot (m:Int) (k:Nat):(nm2 m k).length≤100:=by
 unfold nm2;rw[Str.length_append,Str.length_append,dq,lh,lh];¡
theorem Qe (c:Int) (k:Nat):(nmX c k).length≤100:=by
 unfold nmX;¦c2:c % 3=2
 ·rw[if_pos c2];§Ot _ _
 rw[if_neg c2];¦c1:c % 3=1
 ·rw[if_pos c1];§Gz _ _
 rw[if_neg c1];§Fe _ _ _
theorem Jk (z:Str):(inV (.str z) (d4.map V.str)=true)↔z∈d4:=by
 constructor
 ·¿h;£⟨y,hy,e⟩:=List.mem_map.mp (la h);rw[←V.str.inj e];§hy
 ·¿h;§t8 (List.mem_map.mpr ⟨z,h,rfl⟩)
theorem cy.keep {H H':Hp} {b:Addr} {kinds:List Str} {rs:List Rl} (h:cy H b kinds rs) (t:∀{a:Addr} {xs:List V},H a=some (.tup xs)→H' a=some (.tup xs)):cy H' b kinds rs:=by
 £⟨kt,rt,ra,h1,h2,h3,h4⟩:=h;§⟨kt,rt,ra,t h1,t h2,t h3,h4.keep t⟩
end Pc
namespace Fm
section
variable {N:Type} [DecidableEq N]
structure Lin (lt:N→N→Bool):Prop where
 irr:∀x,lt x x=false
 tr:∀{x y z},lt x y=true→lt y z=true→lt x z=true
 tri:∀x y,lt x y=true∨x=y∨lt y x=true
variable {lt:N→N→Bool}
noncomputable def ev (mon:N→Int):List (N×Int)→Int
 | []=>0
 | p::r=>p.2*mon p.1+ev mon r
variable (mon:N→Int)
end
end Fm
namespace Fm
section
variable {N:Type} [DecidableEq N] (mon:N→Int)
end
end Fm
namespace L2.Itm
open PySem PySem.Spec PyProof.Rows
structure Raw (h:Heap) (d:Addr) (es:Array DictEntry) (ep:Nat) (o:Obj):Prop where
 there:h.get? d=some o
 exact':o.ExactDict
 data:o.data=.dict es ep
theorem Raw.typeIs {s:Shared} {d:Addr} {es:Array DictEntry} {ep:Nat} {o:Obj} (r:Raw s.heap d es ep o):s.TypeIs (.ref d) "dict":=⟨o,r.there,r.exact'.1⟩
section
variable {prog:Program} {w:World} {A:Around} {E:Value→Shared→Prop} {s:Shared} {d:Addr} {es:Array DictEntry} {ep:Nat} {o:Obj}
end
end L2.Itm
namespace L2
open PySem PySem.Spec PyProof.Rows Itm
theorem Aa {P:Program} {w:World} {H:Hp} {h:Heap} {a:Addr} {o:Obj} {kvs:List (List Key×V)} (ok:HOk P w H h) (e:H a=some (.frz o (.dT kvs))):
  ∃es ep,o.data=.dict es ep∧Raw h a es ep o∧es.size=kvs.length∧∀(i:Nat) (k:List Key) (v:V),kvs[i]?=some (k,v)→∃t u j,es[i]?=some ⟨j,.ref t,u⟩∧H t=some (.tup (k.map kV))∧RelV v u:=by
 £⟨h1,_,_,xs,r,o',es,ep,h2,h3,h4,h5,h6⟩:=(show br P w H h a (.frz o (.dT kvs)) from ok a _ e);rw[h1] at h2;cases h2
 ¤hl:kvs.length=xs.length:=Paired.length r;¶⟨es,ep,h4,⟨h1,h3,h4⟩,by rw[←Array.length_toList,h5,List.length_map,hl],λi k v hi=>?_⟩;¤get:∀{l:List (List Key×V)} {m:List (List Key×Addr×Value)},Paired (λ(p:List Key×V) (q:List Key×Addr×Value)=>p.1=q.1∧H q.2.1=some (.tup (p.1.map kV))∧RelV p.2 q.2.2) l m→∀(i:Nat) (p:List Key×V),l[i]?=some p→∃q,m[i]?=some q∧p.1=q.1∧H q.2.1=some (.tup (p.1.map kV))∧RelV p.2 q.2.2:=by
  ¿l m r;induction r with
  | nil=>intro i p hp;simp at hp
  | cons h _ ih=>
   ¿i p hp;cases i with
   | zero=>simp at hp;subst hp;§⟨_,rfl,h⟩
   | succ i=>§ih i p (by simpa using hp)
 £⟨q,hq,q1,q2,q3⟩:=get r i (k,v) hi;¶⟨q.2.1,q.2.2,(tupleKind (bj P w)).hash q.1,?_,q2,q3⟩;rw[←Array.getElem?_toList,h5,List.getElem?_map,hq];rfl
section
variable {X:Cx} {pins:List (Addr×Obj)} {σ σ':St} {H H0:Hp} {s s0:Shared} {a:Addr} {kvs kvs':List (List Key×V)} {o:Obj}
theorem Inv.Fx (I:Inv X pins σ H s) (e:H a=some (.dT kvs)):∃o es ep,o.data=.dict es ep∧Raw s.heap a es ep o∧Inv X pins σ (upd H a (.frz o (.dT kvs))) s:=by
 ¤ok:=(show br X.prog X.w H s.heap a (.dT kvs) from I.hok a _ e);£⟨z,y,xs,r,o,es,ep,h1,h2,h3,h4,h5⟩:=id ok;¶⟨o,es,ep,h3,⟨h1,h2,h3⟩,?_⟩;¤st:br X.prog X.w (upd H a (.frz o (.dT kvs))) s.heap a (.dT kvs):=ok.xn (λb u _ q=>q) (λb q=>by rw[af (λz=>by rw[z,e] at q;cases q)];§q) λb ys q=>by rw[af (λz=>by rw[z,e] at q;cases q)];§q
 §I.write (t':=s.toks) (h':=s.heap) (e:=a) (by rw[e];§True.intro) (.inl rfl) (λb u _ q=>q) ⟨o,h1⟩ ⟨h1,st⟩
theorem Inv.thawT (I0:Inv X pins σ' H0 s0) (e0:H0 a=some (.dT kvs')) (I:Inv X pins σ H s) (e:H a=some (.frz o (.dT kvs))):Inv X pins σ (upd H a (.dT kvs)) s:=by
 ¤nn:∀b,H b=none→b≠a:=λb hb z=>by rw[z,e] at hb;cases hb
 ¤nt:∀b xs,H b=some (.tup xs)→b≠a:=λb xs hb z=>by rw[z,e] at hb;cases hb
 ¤no:∀b y,H b=some (.own y)→b≠a:=λb y hb z=>by rw[z,e] at hb;cases hb
 ¶⟨I.ok,I.os,I.bare,⟨I.base.keep,I.base.slot,λb ob h1 h2 h3=>?_,I.base.there,λb xs h1=>?_,λb ob u h1=>?_,λb ps h1=>?_⟩,I.loc,I.cell,?_,λx c h1=>?_,λp hp=>?_,λb u q=>?_,I.len⟩
 ·¤h4:=I.base.free b ob h1 h2 h3;rw[af (nn b h4)];§h4
 ·¤h4:=I.base.rq b xs h1;rw[af (nt b xs h4)];§h4
 ·¤h4:=I.base.frzs b ob u h1;¤h5:=I0.base.frzs b ob u h1;rw[af (λz=>by rw[z,e0] at h5;cases h5)];§h4
 ·£⟨more,h4⟩:=I.base.tbls b ps h1;§⟨more,by rw[af (λz=>by rw[z,e] at h4;cases h4)];§h4⟩
 ·rw[af (nn _ I.free)];§I.free
 ·rw[af (nn _ (I.freeC x c h1))];§I.freeC x c h1
 ·£⟨p1,p2,p3,p4,p5⟩:=I.pin p hp;§⟨p1,by rw[af (nn _ p2)];§p2,p3,p4,p5⟩
 ·¦hb:b=a
  ·subst hb;rw[ae] at q;cases q
   §((show br X.prog X.w H s.heap b (.frz o (.dT kvs)) from I.hok b _ e).2).xn (λc v _ r=>r) (λc r=>by rw[af (no c b r)];§r) λc xs r=>by rw[af (nt c xs r)];§r
  ·rw[af hb] at q;§(I.hok b u q).xn (λc v _ r=>r) (λc r=>by rw[af (no c b r)];§r) λc xs r=>by rw[af (nt c xs r)];§r
end
def K7 (t:TE):TE:=λσ H Q=>∃a kvs,H a=some (.dT kvs)∧t σ H λv H'=>∃o,H' a=some (.frz o (.dT kvs))∧Q v (upd H' a (.dT kvs))
section
variable {X:Cx}
theorem Kn {e:Expr} {t:TE} (h:PE X e t):PE X e (K7 t):=by
 ¿pins s σ H Q I q;£⟨a,kvs,e0,q⟩:=q;§thn (h pins s σ H _ I q) λv s1 ⟨x,H1,I1,r1,o,e1,q1⟩=>⟨x,_,Inv.thawT I e0 I1 e1,r1,q1⟩
end
end L2
namespace L2
open PySem PySem.Spec PyProof.Rows Itm
section
variable {X:Cx}
end
def TK (H H':Hp):Prop:=∀b xs,H b=some (.tup xs)→H' b=some (.tup xs)
theorem TK.of {H H':Hp} (s:ak H H'):TK H H':=λb xs h=>s b _ h
theorem TK.put {H:Hp} {a:Addr} {o o':HO} (h:H a=some o) (ho:∀xs,o≠.tup xs):TK H (upd H a o'):=λb xs hb=>by
 rw[af (λe=>by rw[e,h] at hb;§ho xs (Option.some.inj hb))];§hb
theorem Qc {J:It} {fr:St} {tc:TT} {te:TE} {D:Addr} {H1:Hp} {Q:Hp→Prop} (n:Nat) (item:Nat→V) (P:Nat→List V→Hp→Prop) (mono:∀i ys H H',TK H H'→P i ys H→P i ys H') (hn:n < sizeLine) (hD:H1 D=none)
  (hgo:∀i H,i < n→ak H1 H→J.go i H) (hyld:∀i H x H',i < n→ak H1 H→J.yld i H x H'→H'=H∧x=item i) (hstop:∀H,ak H1 H→J.stop n H) (h0:P 0 [] H1)
  (step:∀i ys H (G:Hp→Prop) (K':V→Hp→Prop),i < n→P i ys H→ys.length≤i→ak H1 H→(∀H3,ak H H3→P (i+1) ys H3→G H3)→(∀y H4,ak H H4→P (i+1) (ys++[y]) H4→K' y H4)→tc ([some (item i)]++fr) H λb H3=>if b=true then te ([some (item i)]++fr) H3 K' else G H3)
  (done:∀ys H,P n ys H→ys.length≤n→ak H1 H→H D=some (.lst ys)→Q H):LC 1 fr (cj 0) tc te J D H1 Q:=by
 ¶⟨λi m H=>m=n - i∧i≤n∧∃ys,H D=some (.lst ys)∧P i ys H∧ys.length≤i∧ak H1 H,⟨n,by simp,Nat.zero_le _,[],ae,mono _ _ _ _ (TK.of (aa hD _)) h0,Nat.le_refl _,aa hD _⟩,?_⟩;rintro i m H ⟨rfl,hi,ys,hys,hP,hl,hS⟩;¦hlt:i < n
 ·¶.inr ⟨hgo i H hlt hS,λτ x H' hτ hy=>?_⟩;£⟨e1,e2⟩:=hyld i H x H' hlt hS hy;subst e1 e2;£⟨a,rfl⟩:∃a,τ=[a]:=List.length_eq_one_iff.mp hτ;¶⟨⟨[some (item i)],rfl,rfl⟩,step i ys H' _ _ hlt hP hl hS (λH3 q1 q2=>?_) (λy H4 q1 q2=>?_)⟩
  ·§⟨n - (i+1),¥,rfl,hlt,ys,q1 _ _ hys,q2,Nat.le_succ_of_le hl,hS.trans q1⟩
  ·¶⟨ys,q1 _ _ hys,¥,n - (i+1),¥,rfl,hlt,ys++[y],ae,mono _ _ _ _ (TK.put (q1 _ _ hys) λxs e=>by cases e) q2,?_,(hS.trans q1).upd hD _⟩;rw[List.length_append,List.length_singleton];¡
 ·¤e:i=n:=by ¡
  subst e;§.inl ⟨hstop H hS,done ys H hP hl hS hys⟩
end L2
namespace Fm
section
variable {α:Type}
noncomputable def ins (lt:α→α→Bool) (x:α):List α→List α
 | []=>[x]
 | y::r=>if lt y x=true then y::ins lt x r else x::y::r
noncomputable def Fi (lt:α→α→Bool) (l:List α):List α:=l.foldr (ins lt) []
variable {lt:α→α→Bool}
theorem wj (x:α):∀l:List α,(ins lt x l).Perm (x::l)
 | []=>List.Perm.refl _
 | y::r=>by
  show (if lt y x=true then y::ins lt x r else x::y::r).Perm _
  split
  ·§((wj x r).cons y).trans (List.Perm.swap x y r)
  ·§List.Perm.refl _
theorem gz:∀l:List α,(Fi lt l).Perm l
 | []=>List.Perm.refl _
 | x::r=>(wj x (Fi lt r)).trans ((gz r).cons x)
def Srt (lt:α→α→Bool) (l:List α):Prop:=l.Pairwise λa b=>lt b a=false
structure Pre (lt:α→α→Bool):Prop where
 irr:∀x,lt x x=false
 tr:∀{x y z},lt x y=true→lt y z=true→lt x z=true
 neg:∀{x z} (y:α),lt x z=true→lt x y=true∨lt y z=true
theorem Fd (o:Pre lt) (x:α):∀{l:List α},Srt lt l→Srt lt (ins lt x l)
 | [],_=>List.pairwise_singleton _ _
 | y::r,h=>by
  £⟨h1,h2⟩:=List.pairwise_cons.mp h;show Srt lt (if lt y x=true then y::ins lt x r else x::y::r)
  split
  ·rename_i c
   ¶List.pairwise_cons.mpr ⟨λz hz=>?_,Fd o x h2⟩;rcases List.mem_cons.mp ((wj x r).mem_iff.mp hz) with e | e
   ·rw[e];cases q:lt x y with
    | false=>rfl
    | true=>§absurd (o.tr c q) (by rw[o.irr];decide)
   ·§h1 z e
  ·rename_i c
   ¤c:lt y x=false:=Bool.eq_false_iff.mpr c;¶List.pairwise_cons.mpr ⟨λz hz=>?_,h⟩;rcases List.mem_cons.mp hz with e | e
   ·rw[e];§c
   ·cases q:lt z x with
    | false=>rfl
    | true=>
     rcases o.neg y q with k | k
     ·rw[h1 z e] at k;cases k
     ·rw[c] at k;cases k
theorem qg (o:Pre lt):∀l:List α,Srt lt (Fi lt l)
 | []=>List.Pairwise.nil
 | x::r=>Fd o x (qg o r)
theorem my [DecidableEq α] (o:Lin lt):∀{l m:List α},l.Perm m→Srt lt l→Srt lt m→l=m
 | [],m,h,_,_=>h.nil_eq
 | a::r,[],h,_,_=>absurd h.length_eq (by simp)
 | a::r,b::s,h,h1,h2=>by
  £⟨p1,p2⟩:=List.pairwise_cons.mp h1;£⟨q1,q2⟩:=List.pairwise_cons.mp h2;¤e:a=b:=by
   rcases List.mem_cons.mp (h.mem_iff.mp List.mem_cons_self) with e | e
   ·§e
   ·rcases List.mem_cons.mp (h.mem_iff.mpr List.mem_cons_self) with k | k
    ·§k.symm
    ·rcases o.tri a b with z | z | z
     ·rw[q1 a e] at z;cases z
     ·§z
     ·rw[p1 b k] at z;cases z
  subst e;rw[my o (List.Perm.cons_inv h) p2 q2]
end
section
variable {N:Type} [DecidableEq N] {lt:N→N→Bool}
theorem Lin.pre (o:Lin lt) {β:Type} (f:β→N):Pre (λp q:β=>lt (f p) (f q)):=⟨λx=>o.irr _,λh k=>o.tr h k,λ{x z} y h=>by
 rcases o.tri (f x) (f y) with k | k | k
 ·§.inl k
 ·rw[←k];§.inr h
 ·§.inr (o.tr k h)⟩
end
end Fm
namespace Pc
open PySem PySem.Spec L2 PyProof.Rows Fm
theorem linS:Lin ltS:=⟨lg,vi,zz⟩
noncomputable def cv (l:List Str):List Str:=Fi ltS l
theorem Ld {l m:List Str} (hp:m.Perm l) (hs:Srt ltS m):m=cv l:=my linS (hp.trans (gz l).symm) hs (qg (linS.pre id) l)
theorem qh (l:List Str):(cv l).length=l.length:=(gz l).length_eq
theorem Iq {l:List Str} {z:Str}:z∈cv l↔z∈l:=(gz l).mem_iff
end Pc
namespace Pc
open PySem PySem.Spec L2 PyProof.Rows Fm
end Pc
namespace Pc
open PySem PySem.Spec L2 PyProof.Rows Fm
end Pc
namespace L2
open PySem PySem.Spec PyProof.Rows PySem.SeqAt Pc
section
variable {P:Program} {w:World} {A:Around} {s:Shared} {H:Hp}
end
section
variable {X:Cx}
end
end L2
namespace L2
open PySem
theorem Dh {k:Nat} {A:Around} (r:iy k A):A.units+8 < cLine:=by
 have:=r.units;¡
end L2
namespace Pc
open PySem PySem.Spec L2 PyProof.Rows Fm
end Pc
namespace L2
open PySem
end L2
namespace Pc
open PySem PySem.Spec L2 PyProof.Rows Fm
theorem getD_some {α:Type} {l:List α} {i:Nat} {d x:α} (h:l[i]?=some x):l.getD i d=x:=by rw[List.getD_eq_getElem?_getD,h];rfl
end Pc
namespace Pc
open PySem PySem.Spec L2 PyProof.Rows Fm
end Pc
namespace Pc
open PySem PySem.Spec L2 PyProof.Rows Fm
theorem zq {zs:List Str} {is:List Nat} (hp:is.Perm (List.range (zs.map V.str).length)) (hi:∀i j,i≤j→j < (zs.map V.str).length→rank zs.length (λi j=>ltS (zs.getD i "") (zs.getD j "")) (is.getD i 0)≤rank zs.length (λi j=>ltS (zs.getD i "") (zs.getD j "")) (is.getD j 0)):
  (is.map λi=>(zs.map V.str).getD i .non)=(cv zs).map V.str:=by
 rw[List.length_map] at hp hi;¤hlen:is.length=zs.length:=by rw[hp.length_eq,List.length_range]
 ¤hmem:∀i∈is,i < zs.length:=λi h=>List.mem_range.mp (hp.mem_iff.mp h);¤e1:(is.map λi=>(zs.map V.str).getD i .non)=(is.map λi=>zs.getD i "").map V.str:=by
  rw[List.map_map];apply List.map_congr_left
  ¿i h;¤hi:=hmem i h;show (zs.map V.str).getD i .non=V.str (zs.getD i "")
  rw[getD_some (x:=V.str zs[i]) (by rw[List.getElem?_map,List.getElem?_eq_getElem hi];rfl),getD_some (List.getElem?_eq_getElem hi)]
 rw[e1];congr 1
 ¶Ld ?_ ?_
 ·¤e:(List.range zs.length).map (λi=>zs.getD i "")=zs:=by
   apply List.ext_getElem?
   ¿i;rw[List.getElem?_map];¦h:i < zs.length
   ·rw[List.getElem?_range h,List.getElem?_eq_getElem h];show some (zs.getD i "")=_
    rw[getD_some (List.getElem?_eq_getElem h)]
   ·rw[List.getElem?_eq_none_iff.mpr (by rw[List.length_range];¡),List.getElem?_eq_none_iff.mpr ¥];rfl
  have:=hp.map λi=>zs.getD i "";rw[e] at this;§this
 ·¶List.pairwise_map.mpr (List.pairwise_iff_getElem.mpr λi j h1 h2 hij=>?_);¤o:Ord zs.length λi j=>ltS (zs.getD i "") (zs.getD j ""):=⟨λ_ _=>lg _,λ_ _ _ _ _ _ a b=>vi a b,λ_ j _ _ _ _ a=>Gv _ a⟩;¤hr:=hi i j (Nat.le_of_lt hij) ¥;rw[getD_some (List.getElem?_eq_getElem h1),getD_some (List.getElem?_eq_getElem h2)] at hr;¤hrk:=o.rank (i:=is[j]) (j:=is[i]) (hmem _ (List.getElem_mem h2)) (hmem _ (List.getElem_mem h1));rw[decide_eq_false ¥] at hrk;§hrk.symm
end Pc
namespace L2.Zd
open PySem
abbrev IsZ (h:Heap) (z TI TO:Addr) (f0 f1:Value):Prop:=
 h.get? z=some { cls:=.type "zip",dict:=none,data:=.fields #[f0,f1,.bool false,.ref TI,.ref TO],slots:=#[] }
section
variable {prog:Program} {w:World} {A:Around} {E:Value→Shared→Prop} {s:Shared}
theorem alive {M:Model} {a:Addr} {Q:Option Obj→Shared→Prop} (h:Q (s.heap.get? a) s):wpAny M A (loadIfAlive a) Q E s:=λΓ p hΓ=>by
 unfold loadIfAlive;rw[Sem.wp_loadIfAlive];§wpAny_pure h Γ p hΓ
theorem Mw {z TI TO T:Addr} {b:Bool} {o:Obj} {Q:Bool→Shared→Prop} (hz:IsZ s.heap z TI TO (rawInt T) (.bool b)) (ho:s.heap.get? T=some o)
  (q:∀h',IsZ h' z TI TO (rawInt T) (.bool true)→Heap.SameBut z s.heap h'→Q false { s with heap:=h' }):wpAny (model prog w) A (Builtin.SmallTypes.ownedTupleIsFree (.ref z)) Q E s:=by
 unfold Builtin.SmallTypes.ownedTupleIsFree;¶wpAny_bind (wpAny_field hz rfl (x:=rawInt T) rfl ?_);show wpAny _ _ (loadIfAlive T >>=_) _ _ _
 ¶wpAny_bind (alive ?_);rw[ho];show wpAny _ _ (field (.ref z) 1 >>=_) _ _ _
 ¶wpAny_bind (wpAny_field hz rfl (x:=.bool b) rfl ?_);cases b with
 | true=>§wpAny_pure (q s.heap hz (Heap.SameBut.refl _ _))
 | false=>§wpAny_bind (wpAny_setField_rec hz (by simp) λh' hz' hs'=>wpAny_pure (q h' hz' hs'))
end
end L2.Zd
namespace L2.Zg
open PySem L2.Zd
def Hf:Bool→Addr→Addr→Array Value→Nat→Heap→Prop
 | false,it,l,xs,k,h=>h.IsListIter it l k∧h.IsList l xs
 | true,it,l,xs,k,h=>h.IsTupleIter it l k∧h.IsTuple l xs
theorem Hf.keep {b:Bool} {it l:Addr} {xs:Array Value} {k:Nat} {h h':Heap} (x:Hf b it l xs k h) (g1:∀o,h.get? it=some o→h'.get? it=some o) (g2:∀o,h.get? l=some o→h'.get? l=some o):Hf b it l xs k h':=by
 cases b
 ·£⟨⟨o,e,r⟩,⟨o',e',r'⟩⟩:=x;§⟨⟨o,g1 _ e,r⟩,⟨o',g2 _ e',r'⟩⟩
 ·£⟨⟨o,e,r⟩,⟨o',e',r'⟩⟩:=x;§⟨⟨o,g1 _ e,r⟩,⟨o',g2 _ e',r'⟩⟩
section
variable {prog:Program} {w:World} {A:Around} {E:Value→Shared→Prop} {s:Shared}
theorem Hf.next {b:Bool} {it l:Addr} {xs:Array Value} {k:Nat} {v:Value} {Q:Value→Shared→Prop} (x:Hf b it l xs k s.heap) (hne:l≠it) (hx:xs[k]?=some v)
  (hQ:∀h',Hf b it l xs (k+1) h'→Heap.SameBut it s.heap h'→Q v { s with heap:=h' }):wpAny (model prog w) A (Builtin.SmallTypes.nextOf (.ref it)) Q E s:=by
 cases b
 ·£⟨x1,x2⟩:=x;§wpAny_nextOf_list_item x1 x2 hx λh' a b=>hQ h' ⟨a,x2.extBut b.extBut hne⟩ b
 ·£⟨x1,x2⟩:=x;¤ty:=x1.typeIs;£⟨oi,hoi,ci,di⟩:=id x1;£⟨ot,hot,_,nt,dt⟩:=id x2;unfold Builtin.SmallTypes.nextOf;¶wpAny_bind (wpAny_callSpecial?_slot (name:=Str.ofString "__next__") ty F.slot_tuple_iterator_next (wpAny_call_entry F.slot_tuple_iterator_next ty F.entry_tuple_iterator_next ?_ (F.args_tuple_iterator_next_1 _)));show wpAny _ _ (field (.ref it) 0 >>=_) _ _ s
  ¶wpAny_bind (wpAny_field hoi di (x:=.ref l) rfl ?_);show wpAny _ _ (if (Value.ref l==Value.none)=true then _ else _) _ _ s
  rw[if_neg (show ¬((Value.ref l==Value.none)=true) from Bool.false_ne_true)];show wpAny _ _ (field (.ref it) 1 >>=_) _ _ s
  ¶wpAny_bind (wpAny_field hoi di (x:=.int k 0) rfl ?_);show wpAny _ _ (seqItems? (.ref l) >>=_) _ _ s
  ¶wpAny_bind (wpAny_seqItems hot dt ?_);simp only[Int.toNat_natCast,hx];¶wpAny_bind (wpAny_setField hoi di (by simp) (wpAny_pure ⟨v,rfl,wpAny_pure (hQ _ ⟨⟨_,Heap.get?_update_self _ hoi (Obj.isFreed_of_fields (Obj.data_mapFields di _)),(Obj.cls_mapFields ..).trans ci,by rw[Obj.data_mapFields di];simp[rawInt]⟩,x2.extBut (Heap.SameBut.update ..).extBut hne⟩ (Heap.SameBut.update ..))⟩))
theorem Hf.stop {b:Bool} {it l:Addr} {xs:Array Value} {k:Nat} {Q:Value→Shared→Prop} (hh:A.handled=none) (x:Hf b it l xs k s.heap) (hx:xs[k]?=none)
  (hE:∀h' e,Heap.ExtBut it s.heap h'→(∃o,h'.get? e=some o∧o.cls=.type "StopIteration")→E (.ref e) { s with heap:=h' }):wpAny (model prog w) A (Builtin.SmallTypes.nextOf (.ref it)) Q E s:=by
 cases b
 ·£⟨x1,x2⟩:=x;§wpAny_nextOf_list_end hh x1 x2 hx hE
 ·£⟨x1,x2⟩:=x;¤ty:=x1.typeIs;£⟨oi,hoi,ci,di⟩:=id x1;£⟨ot,hot,_,nt,dt⟩:=id x2;unfold Builtin.SmallTypes.nextOf;¶wpAny_bind (wpAny_callSpecial?_slot (name:=Str.ofString "__next__") ty F.slot_tuple_iterator_next (wpAny_call_entry F.slot_tuple_iterator_next ty F.entry_tuple_iterator_next ?_ (F.args_tuple_iterator_next_1 _)));show wpAny _ _ (field (.ref it) 0 >>=_) _ _ s
  ¶wpAny_bind (wpAny_field hoi di (x:=.ref l) rfl ?_);show wpAny _ _ (if (Value.ref l==Value.none)=true then _ else _) _ _ s
  rw[if_neg (show ¬((Value.ref l==Value.none)=true) from Bool.false_ne_true)];show wpAny _ _ (field (.ref it) 1 >>=_) _ _ s
  ¶wpAny_bind (wpAny_field hoi di (x:=.int k 0) rfl ?_);show wpAny _ _ (seqItems? (.ref l) >>=_) _ _ s
  ¶wpAny_bind (wpAny_seqItems hot dt ?_);simp only[Int.toNat_natCast,hx];¶wpAny_bind (wpAny_rule (wpAny_bind (wpAny_setField hoi di (by simp) ?_)));show wpAny _ _ (newExc (.type "StopIteration") [] >>=_) _ _ _
  ¶wpAny_bind ?_;simp only[newExc,newTuple];¶wpAny_bind (wpAny_newObj_type ?_ (by size_fits));¶wpAny_bind (m:=firstArgMember _ _) (wpAny_of_eq (a:=Value.none) (by first | rfl | (simp only[firstArgMember];rfl)) ?_);¶wpAny_newObj_type ?_ (by size_fits);simp only[raiseNew];¶wpAny_bind (wpAny_handled ?_);first | rw[show A.in1.handled=none from hh] | rw[hh]
  ¶wpAny_bind (wpAny_pure (wpAny_throw ?_));§hE _ _ (((Heap.SameBut.update ..).extBut.push _).push _) ⟨_,Heap.get?_push_size _ rfl,rfl⟩
theorem free {z TI TO:Addr} {f0:Value} {b:Bool} {Q:Bool→Shared→Prop} (hz:IsZ s.heap z TI TO f0 (.bool b)) (hf:f0=.none∨∃T:Addr,f0=rawInt T)
  (q:∀r h' b',IsZ h' z TI TO f0 (.bool b')→Heap.SameBut z s.heap h'→Q r { s with heap:=h' }):wpAny (model prog w) A (Builtin.SmallTypes.ownedTupleIsFree (.ref z)) Q E s:=by
 rcases hf with rfl | ⟨T,rfl⟩
 ·unfold Builtin.SmallTypes.ownedTupleIsFree;¶wpAny_bind (wpAny_field hz rfl (x:=.none) rfl (wpAny_pure ?_));§q true s.heap b hz (Heap.SameBut.refl _ _)
 ·cases ho:s.heap.get? T with
  | some o=>§Mw hz ho λh' a c=>q false h' true a c
  | none=>
   unfold Builtin.SmallTypes.ownedTupleIsFree;¶wpAny_bind (wpAny_field hz rfl (x:=rawInt T) rfl ?_);show wpAny _ _ (loadIfAlive T >>=_) _ _ _
   ¶wpAny_bind (alive ?_);rw[ho];§wpAny_pure (q true s.heap b hz (Heap.SameBut.refl _ _))
end
def Zst (c1 c2:Bool) (z TI TO i1 i2 l1 l2:Addr) (xs ys:Array Value) (i:Nat) (h:Heap):Prop:=
 (∃f0 b,IsZ h z TI TO f0 (.bool b)∧(f0=.none∨∃T:Addr,f0=rawInt T))∧(∃a b,IsPair h TO a b)∧IsPair h TI (.ref i1) (.ref i2)∧Hf c1 i1 l1 xs i h∧Hf c2 i2 l2 ys i h
theorem Zst.keep {c1 c2:Bool} {z TI TO i1 i2 l1 l2:Addr} {xs ys:Array Value} {i:Nat} {h h':Heap} (x:Zst c1 c2 z TI TO i1 i2 l1 l2 xs ys i h) (k:∀c∈[z,TI,TO,i1,i2],∀o,h.get? c=some o→h'.get? c=some o) (k1:∀o,h.get? l1=some o→h'.get? l1=some o) (k2:∀o,h.get? l2=some o→h'.get? l2=some o):Zst c1 c2 z TI TO i1 i2 l1 l2 xs ys i h':=by
 £⟨⟨f0,b,a1,a2⟩,⟨p,q,a3⟩,a4,a5,a6⟩:=x;§⟨⟨f0,b,k z (by simp) _ a1,a2⟩,⟨p,q,k TO (by simp) _ a3⟩,k TI (by simp) _ a4,a5.keep (k i1 (by simp)) k1,a6.keep (k i2 (by simp)) k2⟩
section
variable {prog:Program} {w:World} {A:Around} {E:Value→Shared→Prop} {s:Shared} {c1 c2:Bool} {z TI TO i1 i2 l1 l2:Addr} {xs ys:Array Value} {i:Nat}
theorem item {x y:Value} {Q:Value→Shared→Prop} (D:ZipApart z TI TO i1 i2 l1 l2) (hz:Zst c1 c2 z TI TO i1 i2 l1 l2 xs ys i s.heap) (hx:xs[i]?=some x) (hy:ys[i]?=some y)
  (hQ:∀h',Zst c1 c2 z TI TO i1 i2 l1 l2 xs ys (i+1) h'→IsPair h' s.heap.objs.size x y→h'.objs.size=s.heap.objs.size+1→(∀c o,c≠z→c≠TO→c≠i1→c≠i2→s.heap.get? c=some o→h'.get? c=some o)→Q (.ref s.heap.objs.size) { s with heap:=h' }):
  wpAny (model prog w) A (Builtin.«zip.__next__» ⟨[.ref z],[]⟩) (λfin s'=>∃v,fin=.done (.ret v)∧Q v s') E s:=by
 £⟨⟨f0,b,z0,hf⟩,⟨p,q,hTO⟩,hTI,h1,h2⟩:=hz;show wpAny _ _ (field (.ref z) 2 >>=_) _ _ _
 ¶wpAny_bind (wpAny_field z0 rfl (x:=.bool false) rfl ?_);show wpAny _ _ (field (.ref z) 3 >>=_) _ _ _
 ¶wpAny_bind (wpAny_field z0 rfl (x:=.ref TI) rfl ?_);¶wpAny_bind (wpAny_seqItems hTI rfl ?_);show wpAny _ _ (Builtin.SmallTypes.ownedTupleIsFree (.ref z) >>=_) _ _ _
 ¶wpAny_bind (free z0 hf λr h₁ b1 z1 s1=>?_);¤k1:∀c o,c≠z→s.heap.get? c=some o→h₁.get? c=some o:=λc o n e=>s1.extBut _ _ n e;¤H1:=h1.keep (λo e=>k1 _ o D.i1z e) λo e=>k1 _ o D.l1z e;¤H2:=h2.keep (λo e=>k1 _ o D.i2z e) λo e=>k1 _ o D.l2z e;cases r with
 | false=>
  simp only[Bool.false_eq_true,if_false];¶wpAny_bind ?_;rw[←Array.forIn_toList];simp only[List.forIn_cons,List.forIn_nil];¶wpAny_bind (wpAny_bind (wpAny_holding ?_));show wpAny _ _ (Builtin.SmallTypes.nextOf (.ref i1) >>=_) _ _ _
  ¶wpAny_bind (H1.next (s:={ s with heap:=h₁ }) D.l1i1 hx λh₂ H1' s2=>wpAny_pure (wpAny_pure ?_));¤s2:Heap.SameBut i1 h₁ h₂:=s2;¤H2':=H2.keep (λo e=>s2.extBut _ _ D.i12.symm e) λo e=>s2.extBut _ _ D.l2i1 e;¶wpAny_bind (wpAny_bind (wpAny_holding ?_));show wpAny _ _ (Builtin.SmallTypes.nextOf (.ref i2) >>=_) _ _ _
  ¶wpAny_bind (H2'.next (s:={ s with heap:=h₂ }) D.l2i2 hy λh₃ H2'' s3=>wpAny_pure (wpAny_pure (wpAny_pure ?_)));¤s3:Heap.SameBut i2 h₂ h₃:=s3;¶wpAny_bind (wpAny_newTuple (hsz:=by show (2:Nat)≤sizeLine;decide) ?_);¤sz:h₃.objs.size=s.heap.objs.size:=by rw[s3.1,s2.1,s1.1]
  ¤up:∀c o,c≠z→c≠i1→c≠i2→s.heap.get? c=some o→(h₃.push { cls:=.type "tuple",data:=.seq #[x,y] }).get? c=some o:=λc o n1 n2 n3 e=>Heap.get?_push_of_some _ (s3.extBut _ _ n3 (s2.extBut _ _ n2 (s1.extBut _ _ n1 e)));¶wpAny_pure ⟨_,rfl,?_⟩;rw[sz];¶hQ _ ⟨⟨f0,b1,Heap.get?_push_of_some _ (s3.extBut _ _ D.i2z.symm (s2.extBut _ _ D.i1z.symm z1)),hf⟩,⟨p,q,up _ _ D.TOz D.TOi1 D.TOi2 hTO⟩,up _ _ D.TIz D.TIi1 D.TIi2 hTI,?_,H2''.keep (λo e=>Heap.get?_push_of_some _ e) λo e=>Heap.get?_push_of_some _ e⟩ ?_ (by rw[Heap.size_push,sz]) λc o n1 _ n3 n4 e=>up c o n1 n3 n4 e
  ·§H1'.keep (λo e=>Heap.get?_push_of_some _ (s3.extBut _ _ D.i12 e)) λo e=>Heap.get?_push_of_some _ (s3.extBut _ _ D.l1i2 e)
  ·rw[←sz];§Heap.get?_push_size _ rfl
 | true=>
  simp only[if_true];¶wpAny_bind (wpAny_rule ?_);¶wpAny_bind (wpAny_field z1 rfl (x:=.ref TO) rfl ?_);¶wpAny_bind (wpAny_setField_rec z1 (by simp) λh₂ z2 s2=>?_);replace z2:IsZ h₂ z TI TO .ellipsis (.bool b1):=z2
  ¤s2:Heap.SameBut z h₁ h₂:=s2;¶wpAny_bind ?_;simp only[List.zipIdx_cons,List.zipIdx_nil,List.forIn_cons,List.forIn_nil];¤H1a:=H1.keep (λo e=>s2.extBut _ _ D.i1z e) λo e=>s2.extBut _ _ D.l1z e;¤H2a:=H2.keep (λo e=>s2.extBut _ _ D.i2z e) λo e=>s2.extBut _ _ D.l2z e;¶wpAny_bind (wpAny_bind (wpAny_onRaise ?_));show wpAny _ _ (Builtin.SmallTypes.nextOf (.ref i1) >>=_) _ _ _
  ¶wpAny_bind (H1a.next (s:={ s with heap:=h₂ }) D.l1i1 hx λh₃ H1b s3=>wpAny_pure ?_);¤s3:Heap.SameBut i1 h₂ h₃:=s3;¤o3:IsPair h₃ TO p q:=s3.extBut _ _ D.TOi1 (s2.extBut _ _ D.TOz (k1 _ _ D.TOz hTO));¶wpAny_bind (wpAny_seqItems o3 rfl ?_);¶wpAny_bind (wpAny_updateSeq_pair o3 λh₄ o4 s4=>?_);replace o4:IsPair h₄ TO x q:=o4
  ¤s4:Heap.SameBut TO h₃ h₄:=s4;¶wpAny_bind (wpAny_letGo (wpAny_pure ?_));¤H2b:=H2a.keep (λo e=>s4.extBut _ _ D.TOi2.symm (s3.extBut _ _ D.i12.symm e)) λo e=>s4.extBut _ _ D.l2TO (s3.extBut _ _ D.l2i1 e);¶wpAny_bind (wpAny_bind (wpAny_onRaise ?_));show wpAny _ _ (Builtin.SmallTypes.nextOf (.ref i2) >>=_) _ _ _
  ¶wpAny_bind (H2b.next (s:={ s with heap:=h₄ }) D.l2i2 hy λh₅ H2c s5=>wpAny_pure ?_);¤s5:Heap.SameBut i2 h₄ h₅:=s5;¤o5:IsPair h₅ TO x q:=s5.extBut _ _ D.TOi2 o4;¶wpAny_bind (wpAny_seqItems o5 rfl ?_);¶wpAny_bind (wpAny_updateSeq_pair o5 λh₆ o6 s6=>?_);replace o6:IsPair h₆ TO x y:=o6
  ¤s6:Heap.SameBut TO h₅ h₆:=s6;¶wpAny_bind (wpAny_letGo (wpAny_pure (wpAny_pure ?_)));¶wpAny_bind (wpAny_seqItems o6 rfl ?_);¶wpAny_bind (wpAny_newTuple ?_);¤sz:h₆.objs.size=s.heap.objs.size:=by rw[s6.1,s5.1,s4.1,s3.1,s2.1,s1.1]
  ¤z6:IsZ h₆ z TI TO .ellipsis (.bool b1):=s6.extBut _ _ D.TOz.symm (s5.extBut _ _ D.i2z.symm (s4.extBut _ _ D.TOz.symm (s3.extBut _ _ D.i1z.symm z2)));¤up:∀c o,c≠z→c≠TO→c≠i1→c≠i2→s.heap.get? c=some o→h₆.get? c=some o:=λc o n1 n2 n3 n4 e=>s6.extBut _ _ n2 (s5.extBut _ _ n4 (s4.extBut _ _ n2 (s3.extBut _ _ n3 (s2.extBut _ _ n1 (k1 _ _ n1 e)))));¤H1c:=H1b.keep (λo e=>s6.extBut _ _ D.TOi1.symm (s5.extBut _ _ D.i12 (s4.extBut _ _ D.TOi1.symm e))) λo e=>s6.extBut _ _ D.l1TO (s5.extBut _ _ D.l1i2 (s4.extBut _ _ D.l1TO e));¤H2d:=H2c.keep (λo e=>s6.extBut _ _ D.TOi2.symm e) λo e=>s6.extBut _ _ D.l2TO e;¤zl:z < h₆.objs.size:=Heap.lt_size z6;show wpAny _ _ (Builtin.SmallTypes.ownedTupleHandOut (.ref z) (.ref h₆.objs.size) >>=_) _ _ _
  ¶wpAny_bind ?_;unfold Builtin.SmallTypes.ownedTupleHandOut;¤z7:IsZ (h₆.push { cls:=.type "tuple",data:=.seq #[x,y] }) z TI TO .ellipsis (.bool b1):=Heap.get?_push_of_some _ z6;¶wpAny_bind (wpAny_setField_rec z7 (by simp) λh₈ z8 s8=>?_);replace z8:IsZ h₈ z TI TO (rawInt h₆.objs.size) (.bool b1):=z8
  ¶wpAny_setField_rec z8 (by simp) λh₉ z9 s9=>?_;replace z9:IsZ h₉ z TI TO (rawInt h₆.objs.size) (.bool false):=z9
  ¤u9:∀c o,c≠z→h₆.get? c=some o→h₉.get? c=some o:=λc o n e=>s9.extBut _ _ n (s8.extBut _ _ n (Heap.get?_push_of_some _ e));¤t9:IsPair h₉ h₆.objs.size x y:=s9.extBut _ _ (Nat.ne_of_gt zl) (s8.extBut _ _ (Nat.ne_of_gt zl) (Heap.get?_push_size _ rfl));¤n9:h₉.objs.size=h₆.objs.size+1:=by rw[s9.1,s8.1,Heap.size_push]
  rw[sz] at z9 t9 n9;¶wpAny_pure ⟨_,rfl,?_⟩;show Q (.ref h₆.objs.size) _
  rw[sz];§hQ h₉ ⟨⟨_,false,z9,.inr ⟨_,rfl⟩⟩,⟨x,y,u9 _ _ D.TOz o6⟩,u9 _ _ D.TIz (up _ _ D.TIz D.TITO D.TIi1 D.TIi2 hTI),H1c.keep (λo e=>u9 _ o D.i1z e) λo e=>u9 _ o D.l1z e,H2d.keep (λo e=>u9 _ o D.i2z e) λo e=>u9 _ o D.l2z e⟩ t9 n9 λc o n1 n2 n3 n4 e=>u9 c o n1 (up c o n1 n2 n3 n4 e)
theorem fin {Q:Fin→Shared→Prop} (hh:A.handled=none) (D:ZipApart z TI TO i1 i2 l1 l2) (hz:Zst c1 c2 z TI TO i1 i2 l1 l2 xs ys i s.heap) (hx:xs[i]?=none)
  (hE:∀h' e,(∀c o,c≠z→c≠TO→c≠i1→c≠i2→s.heap.get? c=some o→h'.get? c=some o)→(∃o,h'.get? e=some o∧o.cls=.type "StopIteration")→E (.ref e) { s with heap:=h' }):
  wpAny (model prog w) A (Builtin.«zip.__next__» ⟨[.ref z],[]⟩) Q E s:=by
 £⟨⟨f0,b,z0,hf⟩,⟨p,q,hTO⟩,hTI,h1,h2⟩:=hz;show wpAny _ _ (field (.ref z) 2 >>=_) _ _ _
 ¶wpAny_bind (wpAny_field z0 rfl (x:=.bool false) rfl ?_);show wpAny _ _ (field (.ref z) 3 >>=_) _ _ _
 ¶wpAny_bind (wpAny_field z0 rfl (x:=.ref TI) rfl ?_);¶wpAny_bind (wpAny_seqItems hTI rfl ?_);show wpAny _ _ (Builtin.SmallTypes.ownedTupleIsFree (.ref z) >>=_) _ _ _
 ¶wpAny_bind (free z0 hf λr h₁ b1 z1 s1=>?_);¤k1:∀c o,c≠z→s.heap.get? c=some o→h₁.get? c=some o:=λc o n e=>s1.extBut _ _ n e;¤H1:=h1.keep (λo e=>k1 _ o D.i1z e) λo e=>k1 _ o D.l1z e;cases r with
 | false=>
  simp only[Bool.false_eq_true,if_false];¶wpAny_bind ?_;rw[←Array.forIn_toList];simp only[List.forIn_cons,List.forIn_nil];¶wpAny_bind (wpAny_bind (wpAny_holding ?_));show wpAny _ _ (Builtin.SmallTypes.nextOf (.ref i1) >>=_) _ _ _
  §wpAny_bind (H1.stop (s:={ s with heap:=h₁ }) hh hx λh₂ e s2 he=>hE h₂ e (λc o n1 _ n3 _ g=>s2 _ _ n3 (k1 _ _ n1 g)) he)
 | true=>
  simp only[if_true];¶wpAny_bind (wpAny_rule ?_);¶wpAny_bind (wpAny_field z1 rfl (x:=.ref TO) rfl ?_);¶wpAny_bind (wpAny_setField_rec z1 (by simp) λh₂ z2 s2=>?_);replace z2:IsZ h₂ z TI TO .ellipsis (.bool b1):=z2
  ¤s2:Heap.SameBut z h₁ h₂:=s2;¶wpAny_bind ?_;simp only[List.zipIdx_cons,List.zipIdx_nil,List.forIn_cons,List.forIn_nil];¤H1a:=H1.keep (λo e=>s2.extBut _ _ D.i1z e) λo e=>s2.extBut _ _ D.l1z e;¶wpAny_bind (wpAny_bind (wpAny_onRaise ?_));show wpAny _ _ (Builtin.SmallTypes.nextOf (.ref i1) >>=_) _ _ _
  ¶wpAny_bind (H1a.stop (s:={ s with heap:=h₂ }) hh hx λh₃ e s3 he=>?_);£⟨oe,hoe,hce⟩:=he;¤z3:IsZ h₃ z TI TO .ellipsis (.bool b1):=s3 _ _ D.i1z.symm z2;¤hez:e≠z:=λx=>by subst x;rw[z3] at hoe;cases hoe;simp at hce
  §wpAny_setField_rec z3 (by simp) λh₄ _ s4=>hE h₄ e (λc o n1 _ n3 _ g=>s4.extBut _ _ n1 (s3 _ _ n3 (s2.extBut _ _ n1 (k1 _ _ n1 g)))) ⟨oe,s4.extBut _ _ hez hoe,hce⟩
theorem L6 {x y:Value} {Q:Option Value→Shared→Prop} (D:ZipApart z TI TO i1 i2 l1 l2) (hz:Zst c1 c2 z TI TO i1 i2 l1 l2 xs ys i s.heap) (hx:xs[i]?=some x) (hy:ys[i]?=some y)
  (hQ:∀h',Zst c1 c2 z TI TO i1 i2 l1 l2 xs ys (i+1) h'→IsPair h' s.heap.objs.size x y→h'.objs.size=s.heap.objs.size+1→(∀c o,c≠z→c≠TO→c≠i1→c≠i2→s.heap.get? c=some o→h'.get? c=some o)→Q (some (.ref s.heap.objs.size)) { s with heap:=h' }):
  wpAny (model prog w) A (pyNext (.ref z)) Q E s:=by
 ¤hT:s.TypeIs (.ref z) "zip":=by £⟨⟨f0,b,z0,_⟩,_⟩:=hz;§⟨_,z0,rfl⟩
 unfold pyNext;§wpAny_bind (wpAny_attempt (wpAny_callSpecial?_slot (name:=Str.ofString "__next__") hT F.slot_zip_next (wpAny_call_entry F.slot_zip_next hT F.entry_zip_next (item D hz hx hy λh' a b c d=>wpAny_pure (hQ h' a b c d)) (F.args_zip_next_1 _))))
theorem pyFin {Q:Option Value→Shared→Prop} (hh:A.handled=none) (D:ZipApart z TI TO i1 i2 l1 l2) (hz:Zst c1 c2 z TI TO i1 i2 l1 l2 xs ys i s.heap) (hx:xs[i]?=none)
  (hQ:∀h',(∀c o,c≠z→c≠TO→c≠i1→c≠i2→s.heap.get? c=some o→h'.get? c=some o)→Q none { s with heap:=h' }):wpAny (model prog w) A (pyNext (.ref z)) Q E s:=by
 ¤hT:s.TypeIs (.ref z) "zip":=by £⟨⟨f0,b,z0,_⟩,_⟩:=hz;§⟨_,z0,rfl⟩
 unfold pyNext;¶wpAny_bind (wpAny_attempt (wpAny_callSpecial?_slot (name:=Str.ofString "__next__") hT F.slot_zip_next (wpAny_call_entry F.slot_zip_next hT F.entry_zip_next (fin (by first | §hh | simp[hh]) D hz hx λh' e hk he=>?_) (F.args_zip_next_1 _))));£⟨o,ho,hc⟩:=he;¶wpAny_bind (wpAny_isInstance (T:="StopIteration") (b:=true) ⟨o,ho,hc⟩ isSubtype_stop ?_);§wpAny_pure (hQ _ hk)
theorem Kq {Q:Value→Shared→Prop} (hz:Zst c1 c2 z TI TO i1 i2 l1 l2 xs ys i s.heap) (h:Q (.ref z) s):wpAny (model prog w) A (pyIter (.ref z)) Q E s:=by
 ¤hT:s.TypeIs (.ref z) "zip":=by £⟨⟨f0,b,z0,_⟩,_⟩:=hz;§⟨_,z0,rfl⟩
 ¶wpAny_pyIter_slot hT F.slot_zip_iter (wpAny_call_entry F.slot_zip_iter hT F.entry_zip_iter ?_ (F.args_zip_iter_1 _));show wpAny _ _ (ret (.ref z)) _ _ s
 §wpAny_pure ⟨_,rfl,"zip",_,hT,F.slot_zip_next.lookup,h⟩
end
end L2.Zg
namespace L2.Zg
open PySem L2.Zd
theorem new_tl (l1 l2:Addr) (xs ys:Array Value):
  Meets (Builtin.«zip.__new__» ⟨[.type "zip",.ref l1,.ref l2],[]⟩) (λ_ R s=>s.heap.IsTuple l1 xs∧s.heap.IsList l2 ys∧
   R (.ok (.ret (.ref (s.heap.objs.size+4)))) { s with heap:=((((s.heap.push { cls:=.type "tuple_iterator",data:=.fields #[.ref l1,.int 0 0] }).push { cls:=.type "list_iterator",data:=.fields #[.ref l2,.int 0 0] }).push { cls:=.type "tuple",data:=.seq #[.ref s.heap.objs.size,.ref (s.heap.objs.size+1)] }).push { cls:=.type "tuple",data:=.seq #[.none,.none] }).push { cls:=.type "zip",data:=.fields #[.none,.bool false,.bool false,.ref (s.heap.objs.size+2),.ref (s.heap.objs.size+3)] } }):=
 .of_wp λprog w A R s h=>by
  £⟨hp,g,d,tk,os⟩:=s;£⟨hl1,hl2,h⟩:=h;¤hsub:=sub_zip;¤hL1:Heap.IsTuple (Shared.heap ⟨hp,g,d,tk,os⟩) l1 xs:=hl1;¤hL2:Heap.IsList (Shared.heap ⟨hp.push { cls:=.type "tuple_iterator",data:=.fields #[.ref l1,.int 0 0] },g,d,tk,os⟩) l2 ys:=Heap.IsList.push hl2 _;simp only[←Heap.size_push] at h;wp_walk using wpAny_pyIter_tuple hL1,wpAny_pyIter_list hL2
  simp only[Heap.size_push] at h ⊢;§⟨_,rfl,h⟩
section
variable {prog:Program} {w:World} {A:Around} {E:Value→Shared→Prop} {s:Shared}
theorem Qn {l1 l2:Addr} {xs ys:Array Value} {Q:Value→Shared→Prop} (hl1:s.heap.IsTuple l1 xs) (hl2:s.heap.IsList l2 ys)
  (h:∀h',Zst true false (s.heap.objs.size+4) (s.heap.objs.size+2) (s.heap.objs.size+3) s.heap.objs.size (s.heap.objs.size+1) l1 l2 xs ys 0 h'→h'.objs.size=s.heap.objs.size+5→
   (∀c o,s.heap.get? c=some o→h'.get? c=some o)→Q (.ref (s.heap.objs.size+4)) { s with heap:=h' }):
  wpAny (model prog w) A (call (.type "zip") [.ref l1,.ref l2]) Q E s:=by
 ¶callType_new F.called_zip (by decide) (F.typeCall_zip_2 _ _) (F.newCall_zip_2 _ _) (λobj=>F.args_object_init_3 obj _ _) F.entry_zip_new (new_tl l1 l2 xs ys) ⟨hl1,hl2,?_⟩;generalize hn:s.heap.objs.size=n at h ⊢;¤e1:(s.heap.push { cls:=.type "tuple_iterator",data:=.fields #[.ref l1,.int 0 0] }).get? n=some { cls:=.type "tuple_iterator",data:=.fields #[.ref l1,.int 0 0] }:=by rw[←hn];§Heap.get?_push_size _ rfl
 ¤n1:(s.heap.push { cls:=.type "tuple_iterator",data:=.fields #[.ref l1,.int 0 0] }).objs.size=n+1:=by rw[Heap.size_push,hn]
 ¤k1:∀c o,s.heap.get? c=some o→(s.heap.push { cls:=.type "tuple_iterator",data:=.fields #[.ref l1,.int 0 0] }).get? c=some o:=λc o e=>Heap.get?_push_of_some _ e;generalize s.heap.push { cls:=.type "tuple_iterator",data:=.fields #[.ref l1,.int 0 0] }=h1 at e1 n1 k1 ⊢;¤e2:(h1.push { cls:=.type "list_iterator",data:=.fields #[.ref l2,.int 0 0] }).get? (n+1)=some { cls:=.type "list_iterator",data:=.fields #[.ref l2,.int 0 0] }:=by rw[←n1];§Heap.get?_push_size _ rfl
 ¤n2:(h1.push { cls:=.type "list_iterator",data:=.fields #[.ref l2,.int 0 0] }).objs.size=n+2:=by rw[Heap.size_push,n1]
 ¤k2:∀c o,h1.get? c=some o→(h1.push { cls:=.type "list_iterator",data:=.fields #[.ref l2,.int 0 0] }).get? c=some o:=λc o e=>Heap.get?_push_of_some _ e;generalize h1.push { cls:=.type "list_iterator",data:=.fields #[.ref l2,.int 0 0] }=h2 at e2 n2 k2 ⊢;¤e3:(h2.push { cls:=.type "tuple",data:=.seq #[.ref n,.ref (n+1)] }).get? (n+2)=some { cls:=.type "tuple",data:=.seq #[.ref n,.ref (n+1)] }:=by rw[←n2];§Heap.get?_push_size _ rfl
 ¤n3:(h2.push { cls:=.type "tuple",data:=.seq #[.ref n,.ref (n+1)] }).objs.size=n+3:=by rw[Heap.size_push,n2]
 ¤k3:∀c o,h2.get? c=some o→(h2.push { cls:=.type "tuple",data:=.seq #[.ref n,.ref (n+1)] }).get? c=some o:=λc o e=>Heap.get?_push_of_some _ e;generalize h2.push { cls:=.type "tuple",data:=.seq #[.ref n,.ref (n+1)] }=h3 at e3 n3 k3 ⊢;¤e4:(h3.push { cls:=.type "tuple",data:=.seq #[.none,.none] }).get? (n+3)=some { cls:=.type "tuple",data:=.seq #[.none,.none] }:=by rw[←n3];§Heap.get?_push_size _ rfl
 ¤n4:(h3.push { cls:=.type "tuple",data:=.seq #[.none,.none] }).objs.size=n+4:=by rw[Heap.size_push,n3]
 ¤k4:∀c o,h3.get? c=some o→(h3.push { cls:=.type "tuple",data:=.seq #[.none,.none] }).get? c=some o:=λc o e=>Heap.get?_push_of_some _ e;generalize h3.push { cls:=.type "tuple",data:=.seq #[.none,.none] }=h4 at e4 n4 k4 ⊢;¤e5:(h4.push { cls:=.type "zip",data:=.fields #[.none,.bool false,.bool false,.ref (n+2),.ref (n+3)] }).get? (n+4)=some { cls:=.type "zip",data:=.fields #[.none,.bool false,.bool false,.ref (n+2),.ref (n+3)] }:=by rw[←n4];§Heap.get?_push_size _ rfl
 ¤n5:(h4.push { cls:=.type "zip",data:=.fields #[.none,.bool false,.bool false,.ref (n+2),.ref (n+3)] }).objs.size=n+5:=by rw[Heap.size_push,n4]
 ¤k5:∀c o,h4.get? c=some o→(h4.push { cls:=.type "zip",data:=.fields #[.none,.bool false,.bool false,.ref (n+2),.ref (n+3)] }).get? c=some o:=λc o e=>Heap.get?_push_of_some _ e;generalize h4.push { cls:=.type "zip",data:=.fields #[.none,.bool false,.bool false,.ref (n+2),.ref (n+3)] }=h5 at e5 n5 k5 ⊢;¤up:∀c o,s.heap.get? c=some o→h5.get? c=some o:=λc o e=>k5 _ _ (k4 _ _ (k3 _ _ (k2 _ _ (k1 _ _ e))));£⟨o1,g1,r1⟩:=hl1;£⟨o2,g2,r2⟩:=hl2;§⟨⟨_,e5,rfl⟩,h _ ⟨⟨.none,false,e5,.inl rfl⟩,⟨_,_,k5 _ _ e4⟩,k5 _ _ (k4 _ _ e3),⟨⟨_,k5 _ _ (k4 _ _ (k3 _ _ (k2 _ _ e1))),rfl,rfl⟩,⟨o1,up _ _ g1,r1⟩⟩,⟨⟨_,k5 _ _ (k4 _ _ (k3 _ _ e2)),rfl,rfl⟩,⟨o2,up _ _ g2,r2⟩⟩⟩ n5 up⟩
theorem Nz {l1 l2:Addr} {xs ys:Array Value} {Q:Value→Shared→Prop} (hl1:s.heap.IsList l1 xs) (hl2:s.heap.IsList l2 ys)
  (h:∀h',Zst false false (s.heap.objs.size+4) (s.heap.objs.size+2) (s.heap.objs.size+3) s.heap.objs.size (s.heap.objs.size+1) l1 l2 xs ys 0 h'→h'.objs.size=s.heap.objs.size+5→
   (∀c o,s.heap.get? c=some o→h'.get? c=some o)→Q (.ref (s.heap.objs.size+4)) { s with heap:=h' }):
  wpAny (model prog w) A (call (.type "zip") [.ref l1,.ref l2]) Q E s:=
 call_zip_2 hl1 hl2 λh' a1 a2 a3 a4 a5 a6 keep=>h h' ⟨⟨.none,false,a1,.inl rfl⟩,⟨_,_,a3⟩,a2,⟨a4,hl1.at λo e=>keep _ o e⟩,⟨a5,hl2.at λo e=>keep _ o e⟩⟩ a6 keep
end
structure Mk (xs ys:Array Value) (lo:Addr) (h:Heap) (as:List Addr):Prop where
 nd:as.Nodup
 up:∀a∈as,lo < a
 at':∀(j:Nat) (a:Addr),as[j]?=some a→∃x y,xs[j]?=some x∧ys[j]?=some y∧IsPair h a x y
section
variable {prog:Program} {w:World} {A:Around} {s:Shared} {R:Result→Shared→Prop} {c1 c2:Bool} {z TI TO i1 i2 l1 l2 S:Addr} {xs ys:Array Value}
theorem loop (hh:A.handled=none) (D:ZipApart z TI TO i1 i2 l1 l2) (hS:S∉[z,TI,TO,i1,i2,l1,l2]) (lo:Addr) (hlo:z≤lo∧TO≤lo∧i1≤lo∧i2≤lo∧S≤lo) (hn:xs.size=ys.size) (hz:xs.size≤sizeLine) (res:Value) {h₁:Heap}
  (hR:∀h' tk acc c as,(∀b o,b∉[S,z,TO,i1,i2]→h₁.get? b=some o→h'.get? b=some o)→h'.get? S=some { cls:=.type "list",dict:=none,data:=.seq acc c,slots:=#[] }→as.length=xs.size→Mk xs ys lo h' as→
   acc.toList=as.map Value.ref→R (.ok (.ret res)) { s with heap:=h',toks:=tk }):
  ∀(k i:Nat) (h:Heap) (tk c:Nat) (acc:Array Value) (as:List Addr),xs.size - i=k→i≤xs.size→Zst c1 c2 z TI TO i1 i2 l1 l2 xs ys i h→(∀b o,b∉[S,z,TO,i1,i2]→h₁.get? b=some o→h.get? b=some o)→
   h.get? S=some { cls:=.type "list",dict:=none,data:=.seq acc c,slots:=#[] }→acc.toList=as.map Value.ref→as.length=i→Mk xs ys lo h as→lo < h.objs.size→
   codeAny (model prog w) A (.builtin "list.extend.loop" ⟨[.ref S,.ref z,res],[]⟩) R { s with heap:=h,toks:=tk }:=by
 simp only[List.mem_cons,List.not_mem_nil,or_false,not_or] at hS;£⟨Sz,STI,STO,S1,S2,Sl1,Sl2⟩:=hS;¿k;induction k with
 | zero=>
  ¿i h tk c acc as hk hi hst hkeep hSl hacc hal hG hIs;¶codeAny_builtin PySem.F.entry_extend_loop ?_;rw[Around.under_plainId PySem.F.plain_extend_loop _];show wpAny _ A.in1 (pyNext (.ref z) >>=_) _ _ _
  ¶wpAny_bind (pyFin (s:={ s with heap:=h,toks:=tk }) (A:=A.in1) hh D hst (Array.getElem?_eq_none ¥) λh' he=>?_);¶wpAny_pure (hR h' tk acc c as (λb o hb e=>?_) (he S _ Sz STO S1 S2 hSl) ¥ ⟨hG.nd,hG.up,λj a hj=>?_⟩ hacc)
  ·¤hb':=hb;simp only[List.mem_cons,List.not_mem_nil,or_false,not_or] at hb';§he b o hb'.2.1 hb'.2.2.1 hb'.2.2.2.1 hb'.2.2.2.2 (hkeep b o hb e)
  ·£⟨x,y,g1,g2,g3⟩:=hG.at' j a hj;¤u:=hG.up a (List.mem_of_getElem? hj);¤ne:∀{c:Addr},c≤lo→a≠c:=λq=>Nat.ne_of_gt (Nat.lt_of_le_of_lt q u);§⟨x,y,g1,g2,he a _ (ne hlo.1) (ne hlo.2.1) (ne hlo.2.2.1) (ne hlo.2.2.2.1) g3⟩
 | succ k ih=>
  ¿i h tk c acc as hk hi hst hkeep hSl hacc hal hG hIs;¤hlt:i < xs.size:=by ¡
  ¤hsz:acc.size=i:=by rw[←Array.length_toList,hacc,List.length_map,hal]
  ¶codeAny_builtin PySem.F.entry_extend_loop ?_;rw[Around.under_plainId PySem.F.plain_extend_loop _];show wpAny _ A.in1 (pyNext (.ref z) >>=_) _ _ _
  ¶wpAny_bind (L6 (s:={ s with heap:=h,toks:=tk }) D hst (Array.getElem?_eq_getElem hlt) (Array.getElem?_eq_getElem ¥) λh' hst' ht hz' hkp=>?_);dsimp only at ht hz' hkp ⊢;¤hS':=hkp S _ Sz STO S1 S2 hSl;¤up:∀b o,b≠S→h'.get? b=some o→(h'.update S (Obj.mapSeq (·.push (Value.ref h.objs.size)))).get? b=some o:=λb o hb e=>(Heap.get?_update_other _ _ (Ne.symm hb)).trans e;¤hSs:S < h.objs.size:=Heap.lt_size hSl;show wpAny _ A.in1 (updateSeq S (·.push (Value.ref h.objs.size)) >>=_) _ _ _
  ¶wpAny_bind ?_;¶wpAny_updateSeq hS' rfl (wpAny_pure ⟨plainId_quiet PySem.F.plain_extend_loop _,ih (i+1) _ tk _ (acc.push (Value.ref h.objs.size)) (as++[h.objs.size]) ¥ hlt
   (hst'.keep (λb hb o e=>up b o (λx=>by subst x;simp only[List.mem_cons,List.not_mem_nil,or_false] at hb;rcases hb with q | q | q | q | q <;> §absurd q (by assumption)) e) (λo e=>up _ o (Ne.symm Sl1) e) λo e=>up _ o (Ne.symm Sl2) e)
   (λb o hb e=>?_) (Heap.get?_update_self _ hS' rfl) (by rw[Array.toList_push,hacc,List.map_append];rfl) (by rw[List.length_append,hal];rfl) ⟨?_,?_,?_⟩ ?_⟩) (by rw[hsz];¡) (by show (acc.push (Value.ref h.objs.size)).size≤sizeLine+1;rw[Array.size_push,hsz];¡)
  ·¤hb':=hb;simp only[List.mem_cons,List.not_mem_nil,or_false,not_or] at hb';§up b o hb'.1 (hkp b o hb'.2.1 hb'.2.2.1 hb'.2.2.2.1 hb'.2.2.2.2 (hkeep b o hb e))
  ·¶List.nodup_append.mpr ⟨hG.nd,(by simp),λa ha b hb=>?_⟩;rw[List.mem_singleton.mp hb];£⟨j,hj⟩:=List.mem_iff_getElem?.mp ha;£⟨_,_,_,_,e3⟩:=hG.at' j a hj;§Nat.ne_of_lt (Heap.lt_size e3)
  ·¿a ha;rcases List.mem_append.mp ha with ha | ha
   ·§hG.up a ha
   ·rw[List.mem_singleton.mp ha];§hIs
  ·¿j b hj;rcases Nat.lt_trichotomy j as.length with g | g | g
   ·rw[List.getElem?_append_left g] at hj;£⟨x,y,e1,e2,e3⟩:=hG.at' j b hj;¤u:=hG.up b (List.mem_of_getElem? hj);¤ne:∀{c:Addr},c≤lo→b≠c:=λq=>Nat.ne_of_gt (Nat.lt_of_le_of_lt q u);§⟨x,y,e1,e2,up b _ (ne hlo.2.2.2.2) (hkp b _ (ne hlo.1) (ne hlo.2.1) (ne hlo.2.2.1) (ne hlo.2.2.2.1) e3)⟩
   ·subst g;¤hb:h.objs.size=b:=by simpa using hj
    subst hb;§⟨_,_,by rw[hal];§Array.getElem?_eq_getElem hlt,by rw[hal];§Array.getElem?_eq_getElem ¥,up _ _ (Nat.ne_of_gt hSs) ht⟩
   ·¤hnone:(as++[h.objs.size])[j]?=none:=List.getElem?_eq_none (by rw[List.length_append,List.length_singleton];¡);rw[hnone] at hj;cases hj
  ·rw[Heap.size_update,hz'];§Nat.lt_succ_of_lt hIs
end
theorem no_len:typeLookup (.type "zip") "__len__"=pure none:=by rw[typeLookup_type,builtinLookup_eq_fast];kernel_rfl
theorem Qq:typeLookup (.type "zip") "__length_hint__"=pure none:=by rw[typeLookup_type,builtinLookup_eq_fast];kernel_rfl
section
variable {prog:Program} {w:World} {A:Around} {E:Value→Shared→Prop} {s:Shared} {c1 c2:Bool} {z TI TO i1 i2 l1 l2:Addr} {xs ys:Array Value}
theorem extend {R:Result→Shared→Prop} (hh:A.handled=none) (D:ZipApart z TI TO i1 i2 l1 l2) (hz:Zst c1 c2 z TI TO i1 i2 l1 l2 xs ys 0 s.heap) (S:Addr) (hS:S∉[z,TI,TO,i1,i2,l1,l2]) (lo:Addr) (hlo:z≤lo∧TO≤lo∧i1≤lo∧i2≤lo∧S≤lo) (hls:lo < s.heap.objs.size) (hn:xs.size=ys.size) (hsz:xs.size≤sizeLine) (res:Value) (c₀:Nat) (hSl:s.heap.get? S=some { cls:=.type "list",data:=.seq #[] c₀ })
  (hR:∀h' tk acc c as,(∀b o,b∉[S,z,TO,i1,i2]→s.heap.get? b=some o→h'.get? b=some o)→h'.get? S=some { cls:=.type "list",dict:=none,data:=.seq acc c,slots:=#[] }→as.length=xs.size→Mk xs ys lo h' as→
   acc.toList=as.map Value.ref→R (.ok (.ret res)) { s with heap:=h',toks:=tk }):
  wpAny (model prog w) A.in1 (Builtin.List.listExtendWith (.ref S) (.ref z) res)
   (λfin s'=>match fin with | .done f=>R (.ok f) s' | .again c'=>c'.quiet=true∧codeAny (model prog w) A c' R s') (λe s'=>R (.error e) s') s:=by
 ¤hT:s.TypeIs (.ref z) "zip":=by £⟨⟨f0,b,z0,_⟩,_⟩:=hz;§⟨_,z0,rfl⟩
 ¤hSz:S≠z:=λe=>hS (by simp[e]);unfold Builtin.List.listExtendWith;¶wpAny_bind (wpAny_typeOf hT ?_);¤h1:Builtin.List.listSameRef (.ref S) (.ref z)=false:=by simp[Builtin.List.listSameRef,hSz]
 ¤h2:(Value.type "zip"==Value.type "list")=false:=by decide
 ¤h3:(Value.type "zip"==Value.type "tuple")=false:=by decide
 simp only[h1,h2,h3,Bool.or_false,Bool.false_eq_true,if_false];¶wpAny_bind (Kq hz ?_);¶wpAny_bind (wpAny_holding ?_);unfold Builtin.List.listLengthHint;¶wpAny_bind (wpAny_specialOf hT no_len ?_);show wpAny _ A.in1 (specialOf (Value.ref z) (Str.ofString "__length_hint__") >>=_) _ _ _
 ¶wpAny_bind (wpAny_specialOf hT Qq ?_);¶wpAny_pure ?_;show wpAny _ A.in1 (rule "list.extend.makes-room" >>=λ_=>Builtin.List.listTouch (.ref S) >>=λ_=>again (.builtin "list.extend.loop" ⟨[.ref S,.ref z,res],[]⟩)) _ _ _
 ¶wpAny_bind (wpAny_rule ?_);¶wpAny_bind ?_;show wpAny _ A.in1 (updateSeq S (·.push .none) >>=λ_=>updateSeq S (·.pop)) _ _ _
 ¶wpAny_bind (wpAny_updateSeq hSl rfl ?_);¤hS₂:=Heap.get?_update_self (Obj.mapSeq (·.push Value.none)) hSl rfl;¶wpAny_updateSeq (hz:=by seq_fits) hS₂ rfl ?_;¤hS₃:=Heap.get?_update_self (Obj.mapSeq (·.pop)) hS₂ rfl;¤oth:∀b o,b≠S→s.heap.get? b=some o→((s.heap.update S (Obj.mapSeq (·.push Value.none))).update S (Obj.mapSeq (·.pop))).get? b=some o:=λb o hb e=>(Heap.get?_update_other _ _ (Ne.symm hb)).trans ((Heap.get?_update_other _ _ (Ne.symm hb)).trans e);¤hS':=hS;simp only[List.mem_cons,List.not_mem_nil,or_false,not_or] at hS';¶wpAny_pure ⟨plainId_quiet PySem.F.plain_extend_loop _,loop (s:=s) (h₁:=s.heap) hh D hS lo hlo hn hsz res hR xs.size 0 _ _ _ #[] [] (Nat.sub_zero _) (Nat.zero_le _) (hz.keep (λb hb o e=>oth b o (λx=>?_) e) (λo e=>oth _ o (Ne.symm hS'.2.2.2.2.2.1) e) λo e=>oth _ o (Ne.symm hS'.2.2.2.2.2.2) e) (λb o hb e=>oth b o (λx=>hb (by simp[x])) e) hS₃ rfl rfl ⟨List.nodup_nil,(λ_ ha=>nomatch ha),(λj a hj=>by simp at hj)⟩ ?_⟩
 ·subst x;simp only[List.mem_cons,List.not_mem_nil,or_false] at hb;rcases hb with q | q | q | q | q
  ·§hS'.1 q
  ·§hS'.2.1 q
  ·§hS'.2.2.1 q
  ·§hS'.2.2.2.1 q
  ·§hS'.2.2.2.2.1 q
 ·rw[Heap.size_update,Heap.size_update];§hls
theorem N0 {Q:Value→Shared→Prop} (hh:A.handled=none) (D:ZipApart z TI TO i1 i2 l1 l2) (hz:Zst c1 c2 z TI TO i1 i2 l1 l2 xs ys 0 s.heap) (hlt:∀b∈[z,TI,TO,i1,i2,l1,l2],b < s.heap.objs.size) (hn:xs.size=ys.size) (hsz:xs.size≤sizeLine)
  (hQ:∀h' tk acc c as,(∀b o,b∉[z,TO,i1,i2]→s.heap.get? b=some o→h'.get? b=some o)→h'.get? s.heap.objs.size=some { cls:=.type "list",dict:=none,data:=.seq acc c,slots:=#[] }→as.length=xs.size→Mk xs ys s.heap.objs.size h' as→
   acc.toList=as.map Value.ref→Q (.ref s.heap.objs.size) { s with heap:=h',toks:=tk }):
  wpAny (model prog w) A (call (.type "list") [.ref z]) Q E s:=by
 ¶callType_codes (Q₁:=λobj s₁=>obj=.ref s.heap.objs.size∧s₁={ s with heap:=s.heap.push { cls:=.type "list",data:=.seq #[] } }) PySem.F.called_list (PySem.F.typeCall_list_1 _) PySem.F.entry_list_init
  (code_list_new _ ⟨rfl,rfl⟩) λobj s₁ h₁=>?_
 £⟨rfl,rfl⟩:=h₁;¤hS:(s.heap.push { cls:=.type "list",data:=.seq #[] }).get? s.heap.objs.size=some { cls:=.type "list",data:=.seq #[] }:=Heap.get?_push_size _ rfl;¤hSf:s.heap.objs.size∉[z,TI,TO,i1,i2,l1,l2]:=λe=>Nat.lt_irrefl _ (hlt _ e);¤hz1:=hz.keep (h':=s.heap.push { cls:=.type "list",data:=.seq #[] }) (λb _ o e=>Heap.get?_push_of_some _ e) (λo e=>Heap.get?_push_of_some _ e) λo e=>Heap.get?_push_of_some _ e;¶⟨⟨_,hS,rfl⟩,PySem.F.args_list_init_2 _ _,?_⟩;¤z1:=hlt z (by simp);¤z2:=hlt TO (by simp);¤z3:=hlt i1 (by simp);¤z4:=hlt i2 (by simp);show wpAny _ _ (do let old ←Builtin.List.listItems (.ref s.heap.objs.size);Builtin.List.listUpdate (.ref s.heap.objs.size) (λ_=>#[]);letGo old.toList.reverse;Builtin.List.listExtendWith (.ref s.heap.objs.size) (.ref z) .none) _ _ _
 ¶wpAny_bind ?_;unfold Builtin.List.listItems;¶wpAny_bind (wpAny_seqItems hS rfl (wpAny_pure ?_));show wpAny _ _ (updateSeq s.heap.objs.size (λ_=>#[]) >>=λ_=>letGo (#[]:Array Value).toList.reverse >>=λ_=>Builtin.List.listExtendWith (.ref s.heap.objs.size) (.ref z) .none) _ _ _
 ¶wpAny_bind (wpAny_updateSeq hS rfl ?_);¤hS₂:=Heap.get?_update_self (Obj.mapSeq (λ_=>(#[]:Array Value))) hS rfl;¤oth:∀b o,b≠s.heap.objs.size→(s.heap.push { cls:=.type "list",data:=.seq #[] }).get? b=some o→((s.heap.push { cls:=.type "list",data:=.seq #[] }).update s.heap.objs.size (Obj.mapSeq (λ_=>(#[]:Array Value)))).get? b=some o:=λb o hb e=>(Heap.get?_update_other _ _ (Ne.symm hb)).trans e;¶wpAny_bind (wpAny_letGo ?_);¶extend (A:=A.in1) hh D (hz1.keep (λb hb o e=>oth b o (Nat.ne_of_lt (hlt b (by simp only[List.mem_cons,List.not_mem_nil,or_false] at hb ⊢;rcases hb with q | q | q | q | q <;> simp[q]))) e) (λo e=>oth _ o (Nat.ne_of_lt (hlt l1 (by simp))) e) λo e=>oth _ o (Nat.ne_of_lt (hlt l2 (by simp))) e) _ hSf s.heap.objs.size ⟨Nat.le_of_lt z1,Nat.le_of_lt z2,Nat.le_of_lt z3,Nat.le_of_lt z4,Nat.le_refl _⟩ (by show _ < (Heap.update _ _ _).objs.size;rw[Heap.size_update,Heap.size_push];§Nat.lt_succ_self _) hn hsz .none _ hS₂ λh' tk acc c as hk hS' hl hG hacc=>?_;§⟨rfl,hQ h' tk acc c as (λb o hb e=>hk b o (λx=>by
  rcases List.mem_cons.mp x with q | q
  ·§Nat.lt_irrefl _ (q ▸ Heap.lt_size e)
  ·§hb q) (oth b o (Nat.ne_of_lt (Heap.lt_size e)) (Heap.get?_push_of_some _ e))) hS' hl hG hacc⟩
end
end L2.Zg
namespace L2
open PySem PySem.Spec PyProof.Rows Zd Zg
theorem Ls:bootBuiltins "zip"=some (.type "zip"):=by decide+kernel
def SqB (K:PySem.W.Frag):Bool→Hp→Addr→List V→Prop
 | true,H,a,xs=>SqT K H a xs
 | false,H,a,xs=>SqL K H a xs
def itB:Bool→Heap→Addr→Addr→Nat→Prop
 | true,h,it,l,i=>h.IsTupleIter it l i
 | false,h,it,l,i=>h.IsListIter it l i
theorem itB.keep {b:Bool} {h h':Heap} {it l:Addr} {i:Nat} (x:itB b h it l i) (k:∀o,h.get? it=some o→h'.get? it=some o):itB b h' it l i:=by
 cases b
 ·£⟨o,e,r⟩:=x;§⟨o,k _ e,r⟩
 ·£⟨o,e,r⟩:=x;§⟨o,k _ e,r⟩
theorem itB.obj {b:Bool} {h:Heap} {it l:Addr} {i:Nat} (x:itB b h it l i):∃o,h.get? it=some o∧∀v,o.data≠.cell v:=by
 cases b
 ·£⟨o,e,_,d⟩:=x;§⟨o,e,λv z=>by rw[d] at z;cases z⟩
 ·£⟨o,e,_,d⟩:=x;§⟨o,e,λv z=>by rw[d] at z;cases z⟩
theorem Ag {b:Bool} {it l:Addr} {xs:Array Value} {i:Nat} {h:Heap} (x:Hf b it l xs i h):itB b h it l i:=by
 cases b
 ·§x.1
 ·§x.1
def zpN (z TI TO i1 i2:Addr) (h:Heap):Prop:=(∃f0 b,IsZ h z TI TO f0 (.bool b)∧(f0=.none∨∃T:Addr,f0=rawInt T))∧(∃a b,IsPair h TO a b)∧IsPair h TI (.ref i1) (.ref i2)
section
variable {X:Cx} {pins:List (Addr×Obj)} {σ:St} {H:Hp} {s:Shared}
theorem Inv.sqB (I:Inv X pins σ H s) {b:Bool} {a:Addr} {xs:List V} (h:SqB X.K b H a xs):∃its:List Value,Vals xs its∧xs.length≤sizeLine∧a < s.heap.objs.size∧(∀it i,itB b s.heap it a i→Hf b it a its.toArray i s.heap)∧(b=true→s.heap.IsTuple a its.toArray)∧(b=false→s.heap.IsList a its.toArray):=by
 cases b
 ·£⟨its,r,p,z⟩:=I.list h;¶⟨its,r,z,?_,λit i q=>⟨q,p.isList⟩,(λe=>nomatch e),λ_=>p.isList⟩;£⟨o,e,_⟩:=p.isList;§Heap.lt_size e
 ·£⟨its,r,p,z⟩:=I.tuple h;¶⟨its,r,z,?_,λit i q=>⟨q,p⟩,(λ_=>p),(λe=>nomatch e)⟩;£⟨o,e,_⟩:=p;§Heap.lt_size e
theorem Inv.E9 (I:Inv X pins σ H s) {b:Bool} {a:Addr} {xs ys:List V} (h:SqB X.K b H a xs) (h':SqB X.K b H a ys):xs=ys:=by
 cases b
 ·§I.vh h h'
 ·§I.xx h h'
end
noncomputable def Itz (K:PySem.W.Frag) (c1 c2:Bool) (l1 l2:Addr):It:=
  ⟨λi H=>∃xs ys x y,SqB K c1 H l1 xs∧SqB K c2 H l2 ys∧xs[i]?=some x∧ys[i]?=some y,
   λi H x H'=>∃p u v,(∀xs,SqB K c1 H l1 xs→xs[i]?=some u)∧(∀ys,SqB K c2 H l2 ys→ys[i]?=some v)∧H p=none∧x=.ref p∧H'=upd H p (.tup [u,v]),
   λi H=>∃xs ys,SqB K c1 H l1 xs∧SqB K c2 H l2 ys∧xs.length≤i⟩
theorem go_zip {P:Program} {w:World} {A:Around} {E:Value→Shared→Prop} {s:Shared} {tg:Expr} {z TI TO T:Addr} {f0:Value} {b:Bool} {Q:Unit→Shared→Prop} (ht:(∃x pos,tg=.Name x pos)∨∃es k pos,tg=.Tuple es k pos) (hz:IsZ s.heap z TI TO f0 (.bool b)) (hf:f0=.none∨∃T:Addr,f0=rawInt T)
  (q:∀h' f1,IsZ h' z TI TO f1 (.bool b)→(f1=.none∨∃T:Addr,f1=rawInt T)→Heap.SameBut z s.heap h'→Q () { s with heap:=h' }):wpAny (model P w) A (letOwnedTupleGo tg (.ref z) (.ref T)) Q E s:=by
 rcases ht with ⟨x,pos,rfl⟩ | ⟨es,k,pos,rfl⟩
 ·§wpAny_pure (q s.heap f0 hz hf (Heap.SameBut.refl _ _))
 ·unfold letOwnedTupleGo;¶wpAny_bind (wpAny_load hz ?_);show wpAny _ _ (if (["enumerate","zip","dict_itemiterator","dict_reverseitemiterator","odict_iterator","itertools.zip_longest","itertools.pairwise"].contains "zip"&&(#[f0,.bool b,.bool false,.ref TI,.ref TO]:Array Value)[0]?==some (rawInt T))=true then _ else _) Q E s
  ¶wpAny_ite_split (λ_=>wpAny_bind (wpAny_rule ?_)) λ_=>wpAny_pure (q s.heap f0 hz hf (Heap.SameBut.refl _ _));show wpAny _ _ (setField (.ref z) 0 .none) Q E s
  §wpAny_setField_rec hz (by simp) λh' hz' hs'=>q h' .none hz' (.inl rfl) hs'
theorem Mt {P:Program} {w:World} {K:PySem.W.Frag} {tg:Expr} {c1 c2:Bool} (z TI TO i1 i2 l1 l2:Addr) (D:ZipApart z TI TO i1 i2 l1 l2) (ht:(∃x pos,tg=.Name x pos)∨∃es k pos,tg=.Tuple es k pos):
  Turn P w K tg (Itz K c1 c2 l1 l2) [z,TI,TO,i1,i2] z (λi h=>zpN z TI TO i1 i2 h∧itB c1 h i1 l1 i∧itB c2 h i2 l2 i) where
 mem:=by simp
 obj:=λi h st b hb=>by
  £⟨⟨⟨f0,b0,a1,_⟩,⟨p,q,a2⟩,a3⟩,a4,a5⟩:=st;simp only[List.mem_cons,List.not_mem_nil,or_false] at hb;rcases hb with rfl | rfl | rfl | rfl | rfl
  ·§⟨_,a1,λv z=>by cases z⟩
  ·§⟨_,a3,λv z=>by cases z⟩
  ·§⟨_,a2,λv z=>by cases z⟩
  ·§a4.obj
  ·§a5.obj
 keep:=λi h h' st k=>by
  £⟨⟨⟨f0,b0,a1,a0⟩,⟨p,q,a2⟩,a3⟩,a4,a5⟩:=st;§⟨⟨⟨f0,b0,k z (by simp) _ a1,a0⟩,⟨p,q,k TO (by simp) _ a2⟩,k TI (by simp) _ a3⟩,a4.keep (k i1 (by simp)),a5.keep (k i2 (by simp))⟩
 item:=by
  ¿X hP hw hK hc i pins s σ H E I hf st hg;subst hP hw hK;£⟨xs,ys,x,y,hq1,hq2,hx,hy⟩:=hg;£⟨⟨a1,a2,a3⟩,a4,a5⟩:=st;£⟨its1,rv1,_,_,f1,_,_⟩:=I.sqB hq1;£⟨its2,rv2,_,_,f2,_,_⟩:=I.sqB hq2;£⟨u,hu,ru⟩:=rv1.get hx;£⟨v,hv,rv⟩:=rv2.get hy;¤fpl:∀b∈[z,TI,TO,i1,i2],b < s.heap.objs.size:=λb hb=>by
   £⟨f0,b0,e1,_⟩:=a1;£⟨p,q,e2⟩:=a2;£⟨_,e4,_⟩:=a4.obj;£⟨_,e5,_⟩:=a5.obj;simp only[List.mem_cons,List.not_mem_nil,or_false] at hb;rcases hb with rfl | rfl | rfl | rfl | rfl
   ·§Heap.lt_size e1
   ·§Heap.lt_size a3
   ·§Heap.lt_size e2
   ·§Heap.lt_size e4
   ·§Heap.lt_size e5
  ¶L6 (c1:=c1) (c2:=c2) (xs:=its1.toArray) (ys:=its2.toArray) (i:=i) (x:=u) (y:=v) D ⟨a1,a2,a3,f1 _ _ a4,f2 _ _ a5⟩ (by simpa using hu) (by simpa using hv) λh1 zs1 hT hz1 hk1=>⟨_,rfl,?_⟩;£⟨⟨f0,b0,e0,g0⟩,⟨p,q,e2⟩,e3,e4,e5⟩:=zs1;¶go_zip ht e0 g0 λh2 f3 e0' g0' sb=>?_;¤sb:Heap.SameBut z h1 h2:=sb;¤hfr:H s.heap.objs.size=none:=I.hok.fresh (Nat.le_refl _);¤I1:Inv X pins σ (upd H s.heap.objs.size (.tup [x,y])) { s with heap:=s.heap.push { cls:=.type "tuple",data:=.seq #[u,v] },toks:=s.toks }:=
   I.laid (λb o' e'=>Heap.get?_push_of_some _ e') (Nat.le_refl _) (show br X.prog X.w _ _ _ (.tup [x,y]) from ⟨by show (2:Nat)≤sizeLine;decide,[u,v],.cons ru (.cons rv .nil),⟨_,Heap.get?_push_size _ rfl,rfl,_,rfl,rfl⟩⟩)
  ¤nup:∀b,b < s.heap.objs.size→(upd H s.heap.objs.size (.tup [x,y])) b=H b:=λb hb=>af (Nat.ne_of_lt hb);¤zl:=fpl z (by simp);¤I2:=Inv.E5 (h':=h2) (t':=s.toks) (fp:=[z,TI,TO,i1,i2]) I1 (λb o' hb e'=>by
   simp only[List.mem_cons,List.not_mem_nil,or_false,not_or] at hb;¤e':(s.heap.push { cls:=.type "tuple",data:=.seq #[u,v] }).get? b=some o':=e';¦hbs:b=s.heap.objs.size
   ·subst hbs;rw[Heap.get?_push_size _ rfl] at e';cases e'
    §(sb.2 _ hb.1).trans hT
   ·rw[Heap.get?_push_ne _ _ _ hbs] at e';§(sb.2 _ hb.1).trans (hk1 b o' hb.1 hb.2.2.1 hb.2.2.2.1 hb.2.2.2.2 e')) λb hb=>by
   £⟨f0,f⟩:=hf b hb;§⟨by rw[nup b (fpl b hb)];§f0,f⟩
  §⟨.ref s.heap.objs.size,_,I2,rfl,⟨_,x,y,λzs hz=>by rw[I.E9 hz hq1];§hx,λzs hz=>by rw[I.E9 hz hq2];§hy,hfr,rfl,rfl⟩,⟨⟨⟨f3,b0,e0',g0'⟩,⟨p,q,sb.extBut _ _ D.TOz e2⟩,sb.extBut _ _ D.TIz e3⟩,(Ag e4).keep λo e=>sb.extBut _ _ D.i1z e,(Ag e5).keep λo e=>sb.extBut _ _ D.i2z e⟩,λb hb=>by rw[nup b (fpl b hb)];§(hf b hb).1⟩
 done:=by
  ¿X hP hw hK hc i pins s σ H E I hf st hg;subst hP hw hK;£⟨xs,ys,hq1,hq2,hx⟩:=hg;£⟨⟨a1,a2,a3⟩,a4,a5⟩:=st;£⟨its1,rv1,_,_,f1,_,_⟩:=I.sqB hq1;£⟨its2,rv2,_,_,f2,_,_⟩:=I.sqB hq2;¤hl:=rv1.length;¶pyFin (c1:=c1) (c2:=c2) (xs:=its1.toArray) (ys:=its2.toArray) (i:=i) (I.ok.hd hc) D ⟨a1,a2,a3,f1 _ _ a4,f2 _ _ a5⟩ (by simp;¡) λh' hk=>⟨rfl,Inv.E5 (t':=s.toks) (fp:=[z,TI,TO,i1,i2]) I (λb o hb e=>?_) hf⟩;simp only[List.mem_cons,List.not_mem_nil,or_false,not_or] at hb;§hk b o hb.1 hb.2.2.1 hb.2.2.2.1 hb.2.2.2.2 e
 self:=λ_ _ _ _ _ st h=>by
  £⟨⟨⟨f0,b0,a1,_⟩,_⟩,_⟩:=st;¶wpAny_pyIter_slot ⟨_,a1,rfl⟩ F.slot_zip_iter (wpAny_call_entry F.slot_zip_iter ⟨_,a1,rfl⟩ F.entry_zip_iter ?_ (F.args_zip_iter_1 _));§wpAny_pure ⟨_,rfl,"zip",_,⟨_,a1,rfl⟩,F.slot_zip_next.lookup,h⟩
def iZip (K:PySem.W.Frag) (c:Bool) (ta:TA):TI:=λσ H R=>ta σ H λvs H1=>∃l1 l2 xs ys,vs=[.ref l1,.ref l2]∧SqB K c H1 l1 xs∧SqL K H1 l2 ys∧R (Itz K c false l1 l2) H1
section
variable {X:Cx}
theorem wx {pins:List (Addr×Obj)} {σ:St} {H:Hp} {s:Shared} {c:Bool} {l1 l2:Addr} {xs ys:List V} {A:Around} {E:Value→Shared→Prop} {Q:Value→Shared→Prop} (I:Inv X pins σ H s) (h1:SqB X.K c H l1 xs) (h2:SqL X.K H l2 ys)
  (q:∀(u v:List Value) (h':Heap),Vals xs u→Vals ys v→Zst c false (s.heap.objs.size+4) (s.heap.objs.size+2) (s.heap.objs.size+3) s.heap.objs.size (s.heap.objs.size+1) l1 l2 u.toArray v.toArray 0 h'→h'.objs.size=s.heap.objs.size+5→(∀c o,s.heap.get? c=some o→h'.get? c=some o)→l1 < s.heap.objs.size→l2 < s.heap.objs.size→Q (.ref (s.heap.objs.size+4)) { s with heap:=h' }):
  wpAny (model X.prog X.w) A (call (.type "zip") [.ref l1,.ref l2]) Q E s:=by
 £⟨u,ru,_,lt1,_,t1,g1⟩:=I.sqB h1;£⟨v,rv,_,lt2,_,t2,g2⟩:=I.sqB (b:=false) h2;cases c with
 | true=>§Qn (t1 rfl) (g2 rfl) λh' a b d=>q u v h' ru rv a b d lt1 lt2
 | false=>§Nz (g1 rfl) (g2 rfl) λh' a b d=>q u v h' ru rv a b d lt1 lt2
theorem pi_zip {c:Bool} {a b:Expr} {ta:TA} {p pos:Pos} {tg:Expr} (hg:Gl X "zip") (hm:X.mg "zip"=none) (ht:(∃x pos,tg=.Name x pos)∨∃es k pos,tg=.Tuple es k pos) (ha:PA X [a,b] ta) (hs:starEach [a,b] X.env=(false,eval a X.env)::starEach [b] X.env:=by rfl) (hpl:(backTo pos (starEach [b] X.env)).any (·.1)=false:=by rfl):PI X tg (.Call (.Name "zip" p) [a,b] [] pos) (iZip X.K c ta):=by
 ¿pins s σ H R I h;¶Call_ (jq I hg hm Ls (PyProof.Rows.callWith_type1 (thn (ha pos pins s σ H _ I h) λus s1 ⟨vs,H1,I1,r1,q1⟩=>?_) hs hpl));£⟨l1,l2,xs,ys,rfl,e1,e2,q⟩:=q1;£⟨u1,u2,rfl,ru1,ru2⟩:=vals2 r1;cases ru1
 cases ru2
 ¶wx I1 e1 e2 λu v h' ru rv zs hz keep lt1 lt2=>?_;¶Kq zs ?_;£⟨a1,a2,a3,a4,a5⟩:=zs;¶⟨s1.heap.objs.size+4,[s1.heap.objs.size+4,s1.heap.objs.size+2,s1.heap.objs.size+3,s1.heap.objs.size,s1.heap.objs.size+1],_,_,H1,rfl,I1.kept (t':=s1.toks) keep,Mt _ _ _ _ _ l1 l2 (zipApart_new lt1 lt2) ht,⟨⟨a1,a2,a3⟩,Ag a4,Ag a5⟩,λb hb=>?_,q⟩;simp only[List.mem_cons,List.not_mem_nil,or_false] at hb;rcases hb with rfl | rfl | rfl | rfl | rfl
 ·§I1.xc (Nat.le_add_right _ _) (I1.hok.fresh (Nat.le_add_right _ _))
 ·§I1.xc (Nat.le_add_right _ _) (I1.hok.fresh (Nat.le_add_right _ _))
 ·§I1.xc (Nat.le_add_right _ _) (I1.hok.fresh (Nat.le_add_right _ _))
 ·§I1.xc (Nat.le_refl _) (I1.hok.fresh (Nat.le_refl _))
 ·§I1.xc (Nat.le_add_right _ _) (I1.hok.fresh (Nat.le_add_right _ _))
end
theorem Kk {K:PySem.W.Frag} {c:Bool} {l1 l2:Addr} {xs ys:List V} {g:TG} {tb:TS} {D:Ends} {σ:St} {H:Hp} (Pv:Nat→St→Hp→Prop) (h0:Pv 0 σ H) (hn:xs.length=ys.length) (hl:∀i σ H,i≤xs.length→Pv i σ H→SqB K c H l1 xs∧SqL K H l2 ys)
  (hs:∀i x y σ H p,xs[i]?=some x→ys[i]?=some y→Pv i σ H→H p=none→g (.ref p) σ (upd H p (.tup [x,y])) λσ2 H2=>tb { D with nx:=Pv (i+1),ct:=Pv (i+1),bk:=D.nx } σ2 H2) (hd:∀σ H,Pv xs.length σ H→D.nx σ H):Ez g tb D (Itz K c false l1 l2) σ H:=by
 ¶⟨λi m σ H=>m=xs.length - i∧i≤xs.length∧Pv i σ H,⟨xs.length,by simp,Nat.zero_le _,h0⟩,?_⟩;rintro i m σ H ⟨rfl,hi,p⟩;£⟨q1,q2⟩:=hl i σ H hi p;¦hlt:i < xs.length
 ·¶.inr ⟨⟨xs,ys,_,_,q1,q2,List.getElem?_eq_getElem hlt,List.getElem?_eq_getElem ¥⟩,Pv (i+1),λσ' H' p'=>⟨xs.length - (i+1),¥,rfl,hlt,p'⟩,λx H' y=>?_⟩;£⟨t,u,v,hu,hv,hn,rfl,rfl⟩:=y;§hs i u v σ H t (hu xs q1) (hv ys q2) p hn
 ·¤e:i=xs.length:=by ¡
  subst e;§.inl ⟨⟨xs,ys,q1,q2,Nat.le_refl _⟩,hd σ H p⟩
noncomputable def iq (H:Hp) (N:Addr→Option HO):Hp:=λb=>match N b with | some o=>some o | none=>H b
theorem Inv.many {X:Cx} {pins:List (Addr×Obj)} {σ:St} {H:Hp} {s:Shared} {h':Heap} {t':Nat} {N:Addr→Option HO} (I:Inv X pins σ H s) (k:∀b u,s.heap.get? b=some u→h'.get? b=some u) (hp:∀a o,N a=some o→s.heap.objs.size≤a) (new:∀a o,N a=some o→br X.prog X.w (iq H N) h' a o):
  Inv X pins σ (iq H N) { s with heap:=h',toks:=t' }:=by
 ¤old:∀b,b < s.heap.objs.size→iq H N b=H b:=λb hb=>by
  unfold iq;cases e:N b with
  | none=>rfl
  | some o=>§absurd (Nat.lt_of_lt_of_le hb (hp b o e)) (Nat.lt_irrefl _)
 ¤tr:∀b u,H b=some u→iq H N b=some u:=λb u e=>by rw[old b (I.hok.lt e)];§e
 ¶I.step (g':=s.gens) (d':=s.drawn) (ch:=[]) (λb hb=>nomatch hb) (λb o _ _ _ e _=>k b o e) (λb o _ _ _ e _=>⟨o.slots,k b o e⟩) (λb o _ e n=>by rw[old b (Heap.lt_size e)];§n)
  (λb o _ e=>⟨o,k b o e⟩) (λb xs e=>tr b _ e) (λb o u e=>tr b _ e) (λb ps e=>⟨#[],by rw[tr b _ e];simp⟩) (λm hm=>hm.at λo e=>k _ o e) (λb u e=>?_) I.bare
 cases en:N b with
 | some o=>
  have:iq H N b=some o:=by unfold iq;rw[en]
  rw[this] at e;cases e
  §new b _ en
 | none=>
  have:iq H N b=H b:=by unfold iq;rw[en]
  rw[this] at e;§(I.hok b u e).xn (λc v _ q=>k c v q) (λc q=>tr c _ q) λc xs q=>tr c _ q
theorem wc {β:Type}:∀{as:List Addr} {ps:List β},as.Nodup→∀{j:Nat} {a:Addr} {p:β},as[j]?=some a→ps[j]?=some p→(as.zip ps).lookup a=some p
 | [],_,_,j,a,p,h,_=>by simp at h
 | _::_,[],_,j,a,p,_,h=>by simp at h
 | b::as,q::ps,nd,0,a,p,h1,h2=>by
  simp at h1 h2;subst h1 h2;simp[List.lookup]
 | b::as,q::ps,nd,j+1,a,p,h1,h2=>by
  simp only[List.getElem?_cons_succ] at h1 h2;¤hn:=List.nodup_cons.mp nd;¤ne:a≠b:=λe=>hn.1 (e ▸ List.mem_of_getElem? h1);rw[List.zip_cons_cons,List.lookup_cons];simp only[show (a==b)=false from beq_eq_false_iff_ne.mpr ne];§wc hn.2 h1 h2
theorem vk {β:Type}:∀{as:List Addr} {ps:List β} {a:Addr} {p:β},(as.zip ps).lookup a=some p→∃j:Nat,as[j]?=some a∧ps[j]?=some p
 | [],_,a,p,h=>by simp at h
 | _::_,[],a,p,h=>by simp at h
 | b::as,q::ps,a,p,h=>by
  rw[List.zip_cons_cons,List.lookup_cons] at h;¦e:a=b
  ·simp only[show (a==b)=true from beq_iff_eq.mpr e] at h;cases h
   §⟨0,by rw[e];rfl,rfl⟩
  ·simp only[show (a==b)=false from beq_eq_false_iff_ne.mpr e] at h;£⟨j,h1,h2⟩:=vk h;§⟨j+1,h1,h2⟩
theorem qj:∀as:List Addr,Vals (as.map V.ref) (as.map Value.ref)
 | []=>.nil
 | _::as=>.cons rfl (qj as)
def tLZ (K:PySem.W.Frag) (ta:TA):TE:=λσ H Q=>ta σ H λvs H1=>∃(l1 l2:Addr) (xs ys:List V),vs=[.ref l1,.ref l2]∧SqT K H1 l1 xs∧SqL K H1 l2 ys∧xs.length=ys.length∧
 ∀(l:Addr) (as:List Addr) (H2:Hp),ak H1 H2→H1 l=none→as.length=xs.length→H2 l=some (.lst (as.map V.ref))→(∀(j:Nat) (x y:V),xs[j]?=some x→ys[j]?=some y→∃a,as[j]?=some a∧H2 a=some (.tup [x,y]))→Q (.ref l) H2
section
variable {X:Cx}
theorem vm {a b:Expr} {ta:TA} {p p2 pos pos2:Pos} (hc:X.calm=true) (hg:Gl X "list") (hm:X.mg "list"=none) (hg2:Gl X "zip") (hm2:X.mg "zip"=none) (ha:PA X [a,b] ta)
  (hs:starEach [.Call (.Name "zip" p2) [a,b] [] pos2] X.env=[(false,eval (.Call (.Name "zip" p2) [a,b] [] pos2) X.env)]:=by rfl) (hs2:starEach [a,b] X.env=(false,eval a X.env)::starEach [b] X.env:=by rfl) (hpl:(backTo pos2 (starEach [b] X.env)).any (·.1)=false:=by rfl):
  PE X (.Call (.Name "list" p) [.Call (.Name "zip" p2) [a,b] [] pos2] [] pos) (tLZ X.K ta):=by
 ¿pins s σ H Q I h;¶wpAny_Call_Name_kw (jq I hg hm Dt ?_);¶PyProof.Rows.callWith_type1 ?_ hs rfl;rw[hs];show wpAny _ _ (spliced ((false,eval _ X.env)::backTo pos [])) _ _ s
 ¶Calls.spliced_cons ?_;¶wpAny_Call_Name_kw (jq I hg2 hm2 Ls ?_);¶PyProof.Rows.callWith_type1 (thn (ha pos2 pins s σ H _ I h) λus s1 ⟨vs,H1,I1,r1,q1⟩=>?_) hs2 hpl;£⟨l1,l2,xs,ys,rfl,e1,e2,hl,q⟩:=q1;£⟨u1,u2,rfl,ru1,ru2⟩:=vals2 r1;cases ru1
 cases ru2
 ¤zl:xs.length≤sizeLine:=by £⟨_,_,_,z⟩:=I1.tuple e1;§z
 ¶wx (c:=true) I1 e1 e2 λu v h' ru rv zs hz keep lt1 lt2=>Calls.spliced_nil ?_;¤n1:=ru.length;¤n2:=rv.length;¶N0 (s:={ s1 with heap:=h' }) (I1.ok.hd hc) (zipApart_new lt1 lt2) zs (λb hb=>?_) (by rw[List.size_toArray,List.size_toArray];¡) (by rw[List.size_toArray];¡) λh2 tk acc c as kp hL hal hM hacc=>?_
 ·¤hz':(Shared.heap { s1 with heap:=h' }).objs.size=s1.heap.objs.size+5:=hz;rw[hz'];simp only[List.mem_cons,List.not_mem_nil,or_false] at hb;rcases hb with rfl | rfl | rfl | rfl | rfl | rfl | rfl
  ·§Nat.add_lt_add_left (by decide) _
  ·§Nat.add_lt_add_left (by decide) _
  ·§Nat.add_lt_add_left (by decide) _
  ·§Nat.lt_add_of_pos_right (by decide)
  ·§Nat.add_lt_add_left (by decide) _
  ·§Nat.lt_of_lt_of_le lt1 (Nat.le_add_right _ _)
  ·§Nat.lt_of_lt_of_le lt2 (Nat.le_add_right _ _)
 ¤hM:Zg.Mk u.toArray v.toArray h'.objs.size h2 as:=hM;¤kp:∀b o,b∉[s1.heap.objs.size+4,s1.heap.objs.size+3,s1.heap.objs.size,s1.heap.objs.size+1]→h'.get? b=some o→h2.get? b=some o:=kp;¤hL:h2.get? h'.objs.size=some { cls:=.type "list",dict:=none,data:=.seq acc c,slots:=#[] }:=hL;rw[List.size_toArray] at hal;¤le:s1.heap.objs.size≤h'.objs.size:=by rw[hz];§Nat.le_add_right _ _
 ¤k2:∀b o,s1.heap.get? b=some o→h2.get? b=some o:=λb o e=>kp b o (λz=>by
  ¤lt:=Heap.lt_size e;simp only[List.mem_cons,List.not_mem_nil,or_false] at z;rcases z with rfl | rfl | rfl | rfl
  ·§absurd lt (Nat.not_lt.mpr (Nat.le_add_right _ _))
  ·§absurd lt (Nat.not_lt.mpr (Nat.le_add_right _ _))
  ·§absurd lt (Nat.lt_irrefl _)
  ·§absurd lt (Nat.not_lt.mpr (Nat.le_add_right _ _))) (keep b o e)
 let N:Addr→Option HO:=λb=>if b=h'.objs.size then some (.lst (as.map V.ref)) else ((as.zip (xs.zip ys)).lookup b).map λp=>.tup [p.1,p.2]
 ¤Nl:N h'.objs.size=some (.lst (as.map V.ref)):=if_pos rfl;¤Na:∀(j:Nat) (a:Addr) (x y:V),as[j]?=some a→xs[j]?=some x→ys[j]?=some y→N a=some (.tup [x,y]):=λj a x y h1 h3 h4=>by
  show (if a=h'.objs.size then _ else _)=_
  rw[if_neg (Nat.ne_of_gt (hM.up a (List.mem_of_getElem? h1)))];have:(xs.zip ys)[j]?=some (x,y):=List.getElem?_zip_eq_some.mpr ⟨h3,h4⟩;rw[wc hM.nd h1 this];rfl
 ¤inv:∀a o,N a=some o→(a=h'.objs.size∧o=.lst (as.map V.ref))∨∃(j:Nat) (x y:V),as[j]?=some a∧xs[j]?=some x∧ys[j]?=some y∧o=.tup [x,y]:=λa o e=>by
  ¦h:a=h'.objs.size
  ·subst h;rw[Nl] at e;§.inl ⟨rfl,(Option.some.inj e).symm⟩
  ·¤e:(if a=h'.objs.size then _ else ((as.zip (xs.zip ys)).lookup a).map λp=>HO.tup [p.1,p.2])=some o:=e;rw[if_neg h] at e;£⟨⟨x,y⟩,h1,h2⟩:=Option.map_eq_some_iff.mp e;£⟨j,g1,g2⟩:=vk h1;£⟨g3,g4⟩:=List.getElem?_zip_eq_some.mp g2;§.inr ⟨j,x,y,g1,g3,g4,h2.symm⟩
 ¤lo:∀a o,N a=some o→s1.heap.objs.size≤a:=λa o e=>by
  rcases inv a o e with ⟨rfl,_⟩ | ⟨j,x,y,h1,_⟩
  ·§le
  ·§Nat.le_trans le (Nat.le_of_lt (hM.up a (List.mem_of_getElem? h1)))
 ¤I2:Inv X pins σ (iq H1 N) { s1 with heap:=h2,toks:=tk }:=I1.many k2 lo λa o e=>by
  rcases inv a o e with ⟨rfl,rfl⟩ | ⟨j,x,y,h1,h3,h4,rfl⟩
  ·¶⟨by rw[List.length_map];¡,acc.toList,c,?_,by rw[Array.toArray_toList];§hL⟩;rw[hacc];§qj as
  ·£⟨x',y',g1,g2,g3⟩:=hM.at' j a h1;£⟨xu,hxu,rxu⟩:=ru.get h3;£⟨yu,hyu,ryu⟩:=rv.get h4;rw[List.getElem?_toArray] at g1 g2;rw[hxu] at g1;rw[hyu] at g2;cases g1
   cases g2
   §⟨by show (2:Nat)≤sizeLine;decide,[x',y'],.cons rxu (.cons ryu .nil),⟨_,g3,rfl,_,rfl,rfl⟩⟩
 ¤same:ak H1 (iq H1 N):=λb o e=>by
  ¤lt:=I1.hok.lt e;unfold iq;cases en:N b with
  | none=>§e
  | some o'=>§absurd (Nat.lt_of_lt_of_le lt (lo b o' en)) (Nat.lt_irrefl _)
 ¶⟨.ref h'.objs.size,_,I2,rfl,q _ as _ same (I1.hok.fresh le) ¥ (by unfold iq;rw[Nl]) λj x y h3 h4=>?_⟩;¤hj:j < as.length:=by rw[hal,←n1];§(List.getElem?_eq_some_iff.mp h3).1
 ¶⟨as[j],List.getElem?_eq_getElem hj,?_⟩;unfold iq;rw[Na j as[j] x y (List.getElem?_eq_getElem hj) h3 h4]
end
end L2
namespace L2.Zd
open PySem
theorem uq:entryFor table "dict.update.loop"=some Builtin.«dict.update.loop»:=entryFor_of_tree (by kernel_rfl)
theorem jo:plainId "dict.update.loop"=true:=by decide+kernel
section
variable {prog:Program} {w:World} {A:Around} {E:Value→Shared→Prop} {s:Shared} {d z TI TO i1 i2 l1 l2:Addr} {xs ys:Array Value} {i:Nat}
end
end L2.Zd
namespace L2.Zd
open PySem PyProof.Rows
theorem zb:typeLookup (.type "list") "keys"=pure none:=by rw[typeLookup_type,builtinLookup_eq_fast];kernel_rfl
section
variable {prog:Program} {w:World} {A:Around} {E:Value→Shared→Prop} {s:Shared}
theorem Av (a:Addr) (vs:Array Value) (n:Nat) (u:Tok):
  Meets (Builtin.«object.__getattribute__» ⟨[.ref a,.str "keys" u],[]⟩) (λA R s=>s.heap.get? a=some { cls:=.type "list",dict:=none,data:=.seq vs n,slots:=#[] }∧raisesAttr (.ref a) "keys" A R s):=
 meets_getattribute_miss_list a vs n #[] "keys" u zb (by decide+kernel) (by decide+kernel)
theorem K6 {a:Addr} {vs:Array Value} {n:Nat} {Q:Option Value→Shared→Prop} (hx:s.heap.get? a=some { cls:=.type "list",dict:=none,data:=.seq vs n,slots:=#[] }) (hA:A.handled=none)
  (h:∀h' tk,(∀b o,s.heap.get? b=some o→h'.get? b=some o)→Q none { s with heap:=h',toks:=tk }):wpAny (model prog w) A (getAttr? (.ref a) "keys") Q E s:=by
 £⟨hp,g,d,tk,os⟩:=s;¤hT:∀tk',(⟨hp,g,d,tk',os⟩:Shared).TypeIs (.ref a) "list":=λ_=>⟨_,hx,rfl⟩;¤f1:=sub_AttributeError;¤f3:=F.slot_list_getattribute.lookup;¤f4:=F.slot_list_getattribute.bind (.ref a);¤f5:=am_list_getattr_none;unfold getAttr? getAttrBy? getAttrBy;repeat (any_goals (first | assumption | §hT _ | ((with_reducible show wpAny _ _ (call (Value.builtin "list.__getattribute__") _ _) _ _ _);¶call_meets F.slot_list_getattribute (hT _) am_entry_list_getattribute (F.args_list_getattribute_2 _ _) (Av a vs n _) ⟨hx,hA,λh' tk' e hx'=>?_⟩) | wp_step))
 £⟨t',u',he⟩:=hx'.there;show wpAny _ _ (getattributeRaised _ _ _ _ _ _ _) _ _ _
 unfold getattributeRaised;repeat (any_goals (first | assumption | wp_step))
 §h h' tk' hx'.keeps
end
end L2.Zd
namespace L2
open PySem PySem.Spec PyProof.Rows
theorem Bc {K:PySem.W.Frag} {a:Addr} {xs:List V} {fr:L2.St} {tc:TT} {te:TE} {D:Addr} {H1:Hp} {Q:Hp→Prop} (P:Nat→List V→Hp→Prop) (mono:∀i ys H H',TK H H'→P i ys H→P i ys H') (hS:SqL K H1 a xs) (hn:xs.length < sizeLine) (hD:H1 D=none) (h0:P 0 [] H1)
  (step:∀i x ys H (G:Hp→Prop) (K':V→Hp→Prop),xs[i]?=some x→P i ys H→ys.length≤i→ak H1 H→(∀H3,ak H H3→P (i+1) ys H3→G H3)→(∀y H4,ak H H4→P (i+1) (ys++[y]) H4→K' y H4)→tc ([some x]++fr) H λb H3=>if b=true then te ([some x]++fr) H3 K' else G H3)
  (done:∀ys H,P xs.length ys H→ys.length≤xs.length→ak H1 H→H D=some (.lst ys)→Q H):LC 1 fr (cj 0) tc te (Itl K a) D H1 Q:=by
 ¤at':∀i,i < xs.length→xs[i]?=some (xs.getD i .non):=λi hi=>by
  rw[List.getD_eq_getElem?_getD,List.getElem?_eq_getElem hi];rfl
 §Qc xs.length (λi=>xs.getD i .non) P mono hn hD (λi H hi hs=>⟨xs,_,hs.seq hS,at' i hi⟩)
  (λi H x H' hi hs hy=>⟨hy.1,Option.some.inj ((hy.2 xs (hs.seq hS)).symm.trans (at' i hi))⟩) (λH hs=>⟨xs,hs.seq hS,Nat.le_refl _⟩) h0
  (λi ys H G K' hi hP hl hs hG hK=>step i _ ys H G K' (at' i hi) hP hl hs hG hK) done
end L2
namespace L2
open PySem PySem.Spec PyProof.Rows
section
variable {X:Cx} {pos:Pos} {tg:Expr}
theorem O3 (K:PySem.W.Frag) (hK:X.K=K) {es:List Expr} {k:Nat} {t:TGs} {n:Nat} (hc:X.calm=true) (h:PGs X es t) (hn:(assignEach es X.env).length=n:=by rfl) (hst:(assignEach es X.env).findIdx? (·.1)=none:=by rfl):PG X (.Tuple es k pos) (Ew K n t):=by
 subst hK;§Lr hc h hn hst
theorem yx (n:Nat):Builtin.Range.rangeSize ((n:Int) - 1) (-1) (-1)=n:=by
 unfold Builtin.Range.rangeSize;cases n with
 | zero=>decide
 | succ n=>
  simp;¡
theorem J9 {n:Nat} (h:n < 2 ^ 62):Builtin.Range.small ((n:Int) - 1) (-1) (-1)=true:=by
 unfold Builtin.Range.small;rw[yx];¤e1:Builtin.Range.rangeFitsLong ((n:Int) - 1)=true:=by
  unfold Builtin.Range.rangeFitsLong;rw[decide_eq_true (show -(2:Int) ^ 63≤(n:Int) - 1 by ¡),decide_eq_true (show (n:Int) - 1 < (2:Int) ^ 63 by ¡)];rfl
 ¤e2:Builtin.Range.rangeFitsLong (n:Int)=true:=by
  unfold Builtin.Range.rangeFitsLong;rw[decide_eq_true (show -(2:Int) ^ 63≤(n:Int) by ¡),decide_eq_true (show (n:Int) < (2:Int) ^ 63 by ¡)];rfl
 rw[e1,e2,show Builtin.Range.rangeFitsLong (-1)=true by decide,if_neg (by decide),show Builtin.Range.rangeFitsLong (-1+(-1+1))=true by decide];simp
def iDn (ta:TA):TI:=λσ H R=>ta σ H λvs H1=>∃n:Nat,vs=[.int ((n:Int) - 1),.int (-1),.int (-1)]∧n < 2 ^ 62∧R (Itd n) H1
theorem Iy {a b c:Expr} {ta:TA} {p pos:Pos} (hg:Gl X "range") (hm:X.mg "range"=none) (ha:PA X [a,b,c] ta) (hs:starEach [a,b,c] X.env=(false,eval a X.env)::starEach [b,c] X.env:=by rfl) (hpl:(backTo pos (starEach [b,c] X.env)).any (·.1)=false:=by rfl):
  PI X tg (.Call (.Name "range" p) [a,b,c] [] pos) (iDn ta):=by
 ¿pins s σ H R I h;¶Call_ (jq I hg hm boot_range (PyProof.Rows.callWith_type1 (thn (ha pos pins s σ H _ I h) λus s1 ⟨vs,H1,I1,r1,q1⟩=>?_) hs hpl));£⟨n,rfl,hn,q⟩:=q1;cases r1 with
 | cons r rr=>
  cases rr with
  | cons r' rr=>
   cases rr with
   | cons r'' rr=>
    cases rr
    £⟨t,rfl⟩:=r;£⟨t',rfl⟩:=r';£⟨t'',rfl⟩:=r'';¶call_range_3 (by decide) ?_ (.inl (PyProof.noPylong_small ¥));¶wpAny_pyIter_range (IsRange.new ..) (J9 hn) ?_;rw[yx];¤I2:Inv X pins σ H1 { s1 with heap:=s1.heap.push { cls:=.type "range",data:=.fields #[.int ((n:Int) - 1) t,.int (-1) t',.int (-1) t''] },toks:=s1.toks }:=I1.kept λb o e=>Heap.get?_push_of_some _ e;¶⟨(s1.heap.push { cls:=.type "range",data:=.fields #[.int ((n:Int) - 1) t,.int (-1) t',.int (-1) t''] }).objs.size,[(s1.heap.push { cls:=.type "range",data:=.fields #[.int ((n:Int) - 1) t,.int (-1) t',.int (-1) t''] }).objs.size],_,_,H1,rfl,I2.kept (t':=s1.toks) λb o e=>Heap.get?_push_of_some _ e,Je _ n,?_,λb hb=>?_,q⟩
    ·¤e1:(n:Int) - 1+((0:Nat):Int)*(-1)=(n:Int) - 1:=by ¡
     ¤e2:(n:Int) - ((0:Nat):Int)=(n:Int):=by ¡
     show IsRangeIter _ _ ((n:Int) - 1+((0:Nat):Int)*(-1)) ((n:Int) - ((0:Nat):Int)) (-1)
     rw[e1,e2];§Heap.get?_push_size _ rfl
    ·¤e:b=(s1.heap.push { cls:=.type "range",data:=.fields #[.int ((n:Int) - 1) t,.int (-1) t',.int (-1) t''] }).objs.size:=by simpa using hb
     subst e;§I2.xc (Nat.le_refl _) (I2.hok.fresh (Nat.le_refl _))
end
theorem Qj {n:Nat} {g:TG} {tb:TS} {D:Ends} {σ:St} {H:Hp} (Pv:Nat→St→Hp→Prop) (h0:Pv n σ H)
  (hs:∀i σ H,i < n→Pv (i+1) σ H→g (.int (i:Int)) σ H λσ2 H2=>tb { D with nx:=Pv i,ct:=Pv i,bk:=D.nx } σ2 H2) (hd:∀σ H,Pv 0 σ H→D.nx σ H):Ez g tb D (Itd n) σ H:=by
 ¶⟨λi m σ H=>m=n - i∧i≤n∧Pv (n - i) σ H,⟨n,by simp,Nat.zero_le _,by simpa using h0⟩,?_⟩;rintro i m σ H ⟨rfl,hi,p⟩;¦hlt:i < n
 ·¶.inr ⟨hlt,Pv (n - (i+1)),λσ' H' p'=>⟨n - (i+1),¥,rfl,hlt,p'⟩,λx H' y=>?_⟩;£⟨rfl,rfl⟩:=y;¤e:(n:Int) - 1 - (i:Int)=((n - (i+1):Nat):Int):=by ¡
  rw[e];§hs (n - (i+1)) σ _ ¥ (by rw[show n - (i+1)+1=n - i by ¡];§p)
 ·¤e:i=n:=by ¡
  subst e;§.inl ⟨Nat.le_refl _,hd σ H (by simpa using p)⟩
theorem Mh {K:PySem.W.Frag} {c:Nat} {a:Addr} {as:List Addr} {fr:St} {tc:TT} {te:TE} {D:Addr} {H1:Hp} {Q:Hp→Prop} (P:Nat→List V→Hp→Prop) (mono:∀i ys H H',TK H H'→P i ys H→P i ys H') (hc:c=4) (hS:SqL K H1 a (as.map V.ref)) (hq:∀(i:Nat) (t:Addr),as[i]?=some t→∃x0 x1 x2 x3,H1 t=some (.tup [x0,x1,x2,x3])) (hn:as.length < sizeLine) (hD:H1 D=none) (h0:P 0 [] H1)
  (step:∀i t x0 x1 x2 x3 ys H (G:Hp→Prop) (K':V→Hp→Prop),as[i]?=some t→H1 t=some (.tup [x0,x1,x2,x3])→P i ys H→ys.length≤i→ak H1 H→(∀H3,ak H H3→P (i+1) ys H3→G H3)→(∀y H4,ak H H4→P (i+1) (ys++[y]) H4→K' y H4)→tc ([some x0,some x1,some x2,some x3]++fr) H λb H3=>if b=true then te ([some x0,some x1,some x2,some x3]++fr) H3 K' else G H3)
  (done:∀ys H,P as.length ys H→ys.length≤as.length→ak H1 H→H D=some (.lst ys)→Q H):LC 4 fr (Ew K c (fq (cj 0) (fq (cj 1) (fq (cj 2) (fq (cj 3) gNil))))) tc te (Itl K a) D H1 Q:=by
 ¶⟨λi m H=>m=as.length - i∧i≤as.length∧∃ys,H D=some (.lst ys)∧P i ys H∧ys.length≤i∧ak H1 H,⟨as.length,by simp,Nat.zero_le _,[],ae,mono _ _ _ _ (TK.of (aa hD _)) h0,Nat.le_refl _,aa hD _⟩,?_⟩;rintro i m H ⟨rfl,hi,ys,hys,hP,hl,hS'⟩;¦hlt:i < as.length
 ·¤ht:as[i]?=some as[i]:=List.getElem?_eq_getElem hlt;¤hti:(as.map V.ref)[i]?=some (.ref as[i]):=by rw[List.getElem?_map,ht];rfl
  £⟨x0,x1,x2,x3,hx⟩:=hq i _ ht;¶.inr ⟨⟨_,_,hS'.seq hS,hti⟩,λτ v H' hτ hy=>?_⟩;£⟨rfl,hy⟩:=hy;¤hv:v=.ref as[i]:=Option.some.inj ((hy _ (hS'.seq hS)).symm.trans hti);subst hv;£⟨a0,a1,a2,a3,rfl⟩:∃a b c d,τ=[a,b,c,d]:=us4 (P:=λτ=>∃a b c d,τ=[a,b,c,d]) hτ λa b c d=>⟨a,b,c,d,rfl⟩;¶⟨as[i],_,rfl,SqT.of (hS' _ _ hx),by rw[hc];rfl,_,_,rfl,_,_,rfl,_,_,rfl,_,_,rfl,rfl,⟨[some x0,some x1,some x2,some x3],rfl,rfl⟩,step i as[i] x0 x1 x2 x3 ys _ _ _ ht hx hP hl hS' (λH3 q1 q2=>?_) (λy H4 q1 q2=>?_)⟩
  ·§⟨as.length - (i+1),¥,rfl,hlt,ys,q1 _ _ hys,q2,Nat.le_succ_of_le hl,hS'.trans q1⟩
  ·¶⟨ys,q1 _ _ hys,¥,as.length - (i+1),¥,rfl,hlt,ys++[y],ae,mono _ _ _ _ (TK.put (q1 _ _ hys) λxs e=>by cases e) q2,?_,(hS'.trans q1).upd hD _⟩;rw[List.length_append,List.length_singleton];¡
 ·¤e:i=as.length:=by ¡
  subst e;§.inl ⟨⟨_,hS'.seq hS,by rw[List.length_map];§Nat.le_refl _⟩,done ys H hP hl hS' hys⟩
namespace Zd
section
variable {prog:Program} {w:World} {A:Around} {E:Value→Shared→Prop} {s:Shared}
def PrT (prog:Program) (w:World) (ps:List (List Key×Addr×Value)) (items:Array Value) (no:List Addr) (h:Heap):Prop:=
 ∀(i:Nat) (k:List Key) (b:Addr) (y:Value),ps[i]?=some (k,b,y)→∃T o n,items[i]?=some (.ref T)∧T∉no∧b∉no∧(tupleKind (bj prog w)).is h k b∧h.get? T=some o∧o.cls=.type "tuple"∧o.data=.seq #[.ref b,y] n
theorem PrT.keep {ps:List (List Key×Addr×Value)} {items:Array Value} {no:List Addr} {h h':Heap} (x:PrT prog w ps items no h) (k:∀b o,b∉no→h.get? b=some o→h'.get? b=some o):PrT prog w ps items no h':=λi a b y e=>by
 £⟨T,o,n,h1,h2,h3,h4,h5,h6⟩:=x i a b y e;£⟨ob,its,m,g1,g2⟩:=h4;§⟨T,o,n,h1,h2,h3,⟨ob,its,m,k _ _ h3 g1,g2⟩,k _ _ h2 h5,h6⟩
noncomputable def Dp (ps:List (List Key×Addr×Value)) (acc:List (List Key×Addr×Value)):List (List Key×Addr×Value):=ps.foldl (λacc p=>storedH acc p.1 p.2.1 p.2.2) acc
theorem loopT {R:Result→Shared→Prop} {I l d:Addr} {items:Array Value} (hI:I≠l) (hu:A.units+1 < cLine) (hh:A.in1.handled=none) (hdI:d≠I) (hdl:d≠l) (ps:List (List Key×Addr×Value)) (hn:ps.length=items.size):
  ∀(m i:Nat) (j:Int) (s:Shared) (kvs:List (List Key×Addr×Value)),ps.length - i=m→i≤ps.length→s.heap.IsListIter I l i→s.heap.IsList l items→PrT prog w ps items [d,I] s.heap→s.heap.DictOfH (tupleKind (bj prog w)) d kvs→kvs.length+m≤sizeLine→
   (∀h' tk,h'.DictOfH (tupleKind (bj prog w)) d (Dp (ps.drop i) kvs)→(∀c o,c≠d→c≠I→s.heap.get? c=some o→h'.get? c=some o)→R (.ok (.ret .none)) { s with heap:=h',toks:=tk })→
   codeAny (model prog w) A (.builtin "dict.update.loop" ⟨[.ref d,.ref I,rawInt j,.none],[]⟩) R s:=by
 ¿m;induction m with
 | zero=>
  ¿i j s kvs hm hi h1 hl hp hd hsz hR;¤e:i=items.size:=by ¡
  ¶codeAny_builtin uq ?_;rw[Around.under_plainId jo _];show wpAny _ A.in1 (pyNext (.ref I) >>=_) _ _ s
  ¶wpAny_bind (wpAny_pyNext_list_end hh h1 hl (by rw[e];§Array.getElem?_eq_none (Nat.le_refl _)) λh' hk=>?_);show wpAny _ A.in1 (Builtin.Dict.addKeywords d [] >>=_) _ _ _
  ¶wpAny_bind (wpAny_pure ?_);¶wpAny_pure (hR h' s.toks ?_ λc o c1 c2 x=>hk c o c2 x);rw[List.drop_eq_nil_of_le ¥];£⟨o,es,ep,ho,r1,r2,r3,r4,r5⟩:=hd;¶⟨o,es,ep,hk d o hdI ho,r1,r2,r3,λx hx=>?_,r5⟩;£⟨ob,its,m,g1,g2⟩:=r4 x hx;¦eb:x.2.1=I
  ·£⟨oi,hoi,ci,_⟩:=h1;rw[eb,hoi] at g1;cases g1
   have:=g2.1;rw[ci] at this;simp at this
  ·§⟨ob,its,m,hk _ _ eb g1,g2⟩
 | succ m ih=>
  ¿i j s kvs hm hi h1 hl hp hd hsz hR;¤hlt:i < ps.length:=by ¡
  £⟨T,o,n,hx,hT,hb,hk,ho,hc,hdat⟩:=hp i ps[i].1 ps[i].2.1 ps[i].2.2 (List.getElem?_eq_getElem hlt);¤hTd:T≠d:=λe=>hT (by rw[e];§List.mem_cons_self);¤hTI:T≠I:=λe=>hT (by rw[e];§List.mem_cons_of_mem _ List.mem_cons_self);¤hbI:ps[i].2.1≠I:=λe=>hb (by rw[e];§List.mem_cons_of_mem _ List.mem_cons_self);¶codeAny_builtin uq ?_;rw[Around.under_plainId jo _];show wpAny _ A.in1 (pyNext (.ref I) >>=_) _ _ s
  ¤h1':=h1;¶wpAny_bind (wpAny_pyNext_list_item h1 hl hx λh₁ h1₁ hs₁=>?_);¤hs₁:Heap.SameBut I s.heap h₁:=hs₁;¤hP:h₁.get? T=some o:=hs₁.extBut _ _ hTI ho;¶wpAny_bind (wpAny_holding (wpAny_bind (wpAny_tryCatch ?_)));unfold Builtin.Dict.pairItems;¤hTy:Shared.TypeIs { s with heap:=h₁ } (.ref T) "tuple":=⟨_,hP,hc⟩;¶wpAny_bind (wpAny_typeOf hTy ?_);rw[if_pos (by decide)];¶wpAny_bind (wpAny_seqItems hP hdat (wpAny_pure ?_));show wpAny _ _ (holding [.ref ps[i].2.1,ps[i].2.2] (dictSet d (.ref ps[i].2.1) ps[i].2.2)) _ _ _
  ¶wpAny_holding ?_;¤hk₁:(tupleKind (bj prog w)).is h₁ ps[i].1 ps[i].2.1:=by
   £⟨ob,its,m,g1,g2⟩:=hk;§⟨ob,its,m,hs₁.extBut _ _ hbI g1,g2⟩
  ¤hd₁:h₁.DictOfH (tupleKind (bj prog w)) d kvs:=by
   £⟨o,es,ep,ho,r1,r2,r3,r4,r5⟩:=hd;¶⟨o,es,ep,hs₁.extBut _ _ hdI ho,r1,r2,r3,λx hx=>?_,r5⟩;£⟨ob,its,m,g1,g2⟩:=r4 x hx;¦eb:x.2.1=I
   ·£⟨oi,hoi,ci,_⟩:=h1';rw[eb,hoi] at g1;cases g1
    have:=g2.1;rw[ci] at this;simp at this
   ·§⟨ob,its,m,hs₁.extBut _ _ eb g1,g2⟩
  ¶wpAny_dictSet_heap (s:={ s with heap:=h₁ }) (knd:=tupleKind (bj prog w)) (tupleKind_room_in1 hu) hk₁ hd₁ (λh₂ hd₂ hs₂=>?_) ¥;¤hs₂:Heap.SameBut d h₁ h₂:=hs₂;¤kp:∀c o,c≠d→c≠I→s.heap.get? c=some o→h₂.get? c=some o:=λc o c1 c2 e=>hs₂.extBut _ _ c1 (hs₁.extBut _ _ c2 e);¶wpAny_pure ⟨plainId_quiet jo _,ih (i+1) (j+1) _ _ ¥ hlt (h1₁.extBut hs₂.extBut hdI.symm) ((hl.extBut hs₁.extBut hI.symm).extBut hs₂.extBut hdl.symm) (hp.keep λb o hb e=>kp b o (λz=>hb (by rw[z];§List.mem_cons_self)) (λz=>hb (by rw[z];§List.mem_cons_of_mem _ List.mem_cons_self)) e) hd₂ ?_ λh' tk hd' k'=>?_⟩
  ·have:(storedH kvs ps[i].1 ps[i].2.1 ps[i].2.2).length≤kvs.length+1:=by
    unfold storedH;split
    ·rw[List.length_map];¡
    ·rw[List.length_append];§Nat.le_refl _
   ¡
  ·¶hR h' tk ?_ λc o c1 c2 x=>k' c o c1 c2 (kp c o c1 c2 x);rw[List.drop_eq_getElem_cons hlt];§hd'
theorem mq {l:Addr} {items:Array Value} {n:Nat} {Q:Value→Shared→Prop} (hu:A.units+4 < cLine) (hh:A.handled=none) (ho:s.heap.get? l=some { cls:=.type "list",dict:=none,data:=.seq items n,slots:=#[] })
  (ps:List (List Key×Addr×Value)) (hn:ps.length=items.size) (hps:PrT prog w ps items [] s.heap) (hsz:ps.length≤sizeLine)
  (h:∀h' tk,h'.DictOfH (tupleKind (bj prog w)) s.heap.objs.size (Dp ps [])→(∀c o,s.heap.get? c=some o→h'.get? c=some o)→Q (.ref s.heap.objs.size) { s with heap:=h',toks:=tk }):
  wpAny (model prog w) A (call (.type "dict") [.ref l]) Q E s:=by
 ¶callType_codes (Q₁:=λobj s₁=>obj=.ref s.heap.objs.size∧s₁={ s with heap:=s.heap.push { cls:=.type "dict",data:=.dict #[] } }) F.kt_called_dict (F.kt_typeCall_dict_1 _) F.entry_dict_init (kt_code_dict_new _ ⟨rfl,rfl⟩) ?_;rintro obj s₁ ⟨rfl,rfl⟩;¤hnew:(s.heap.push { cls:=.type "dict",data:=.dict #[] }).DictOfH (tupleKind (bj prog w)) s.heap.objs.size []:=Heap.DictOfH.new s.heap;¤gt:∀{c o},s.heap.get? c=some o→s.heap.objs.size≠c:=λe=>Nat.ne_of_gt (Heap.lt_size e);¤up:∀{c o},s.heap.get? c=some o→(s.heap.push { cls:=.type "dict",data:=.dict #[] }).get? c=some o:=λe=>Heap.get?_push_of_some _ e;¤hty:Shared.TypeIs { s with heap:=s.heap.push { cls:=.type "dict",data:=.dict #[] } } (.ref s.heap.objs.size) "dict":=⟨_,Heap.get?_push_size _ rfl,rfl⟩;¶⟨hty,F.args_dict_init_2 _ _,?_⟩;unfold Builtin.«dict.__init__»;¶wpAny_bind ?_;unfold Builtin.Dict.selfAndRest;¶wpAny_bind (wpAny_notOrdered_dict hty ?_);show wpAny _ _ (pure (s.heap.objs.size,[Value.ref l])) _ _ _
 ¶wpAny_pure ?_;show wpAny _ _ (Builtin.Dict.updateFrom "dict.__init__" s.heap.objs.size (.ref l) [] .none) _ _ _
 unfold Builtin.Dict.updateFrom;¤hT:Shared.TypeIs { s with heap:=s.heap.push { cls:=.type "dict",data:=.dict #[] } } (.ref l) "list":=⟨_,up ho,rfl⟩;¶wpAny_bind (wpAny_typeOf hT ?_);rw[if_pos (by decide)];¶wpAny_bind (K6 (up ho) (by simp[hh]) λh₁ tk₁ kp₁=>?_);rw[if_pos (show (none:Option Value).isNone=true from rfl)];¤kp:∀{c o},s.heap.get? c=some o→h₁.get? c=some o:=λe=>kp₁ _ _ (up e);¤hl₁:h₁.IsList l items:=⟨_,kp ho,rfl,n,rfl⟩;¶wpAny_bind (wpAny_rule (wpAny_bind (wpAny_pyIter_list hl₁ ?_)));¤dl:s.heap.objs.size < h₁.objs.size:=Heap.lt_size (kp₁ _ _ (Heap.get?_push_size _ rfl));¤hd₁:(h₁.push { cls:=.type "list_iterator",data:=.fields #[.ref l,.int 0 0] }).DictOfH (tupleKind (bj prog w)) s.heap.objs.size []:=by
  £⟨o,es,ep,ho,r1,r2,r3,r4,r5⟩:=hnew;§⟨o,es,ep,Heap.get?_push_of_some _ (kp₁ _ _ ho),r1,r2,r3,(λx hx=>nomatch hx),r5⟩
 ¶wpAny_pure ⟨plainId_quiet jo _,loopT (items:=items) (Nat.ne_of_gt (Heap.lt_size (kp ho))) (by simp only[units_in1];¡) (by simp[hh]) (Nat.ne_of_lt dl) (gt ho) ps hn ps.length 0 0 _ [] rfl (Nat.zero_le _) ⟨_,Heap.get?_push_size _ rfl,rfl,rfl⟩ (hl₁.push _) (λi k b y e=>?_) hd₁ (by show 0+_≤_;¡) λh' tk hd' k'=>⟨rfl,?_⟩⟩
 ·£⟨T,o,n,a1,a2,a3,a4,a5,a6⟩:=hps i k b y e;¤nt:∀{c o},s.heap.get? c=some o→c∉[s.heap.objs.size,h₁.objs.size]:=λ{c o} q z=>by
   rcases List.mem_cons.mp z with z | z
   ·§gt q z.symm
   ·rw[List.mem_singleton.mp z] at q;§absurd (Heap.lt_size (kp q)) (Nat.lt_irrefl _)
  £⟨ob,its,m,g1,g2⟩:=a4;§⟨T,o,n,a1,nt a5,nt g1,⟨ob,its,m,Heap.get?_push_of_some _ (kp g1),g2⟩,Heap.get?_push_of_some _ (kp a5),a6⟩
 ·§h h' tk hd' λc o e=>k' c o (gt e).symm (Nat.ne_of_lt (Heap.lt_size (kp e))) (Heap.get?_push_of_some _ (kp e))
end
end Zd
noncomputable def ko (ps acc:List (List Key×V)):List (List Key×V):=ps.foldl (λacc p=>putK acc p.1 p.2) acc
theorem xa:∀(ps acc:List (List Key×V)),(ko ps acc).length≤acc.length+ps.length
 | [],acc=>Nat.le_refl _
 | p::ps,acc=>by
  ¤h1:=xa ps (putK acc p.1 p.2);¤h2:=gj acc p.1 p.2;show (ko ps (putK acc p.1 p.2)).length≤_
  rw[List.length_cons];¡
theorem KT.merge {H:Hp}:∀{ps:List (List Key×V)} {qs:List (List Key×Addr×Value)},KT H ps qs→∀{acc:List (List Key×V)} {acc':List (List Key×Addr×Value)},KT H acc acc'→KT H (ko ps acc) (Zd.Dp qs acc')
 | _,_,.nil,_,_,r=>r
 | (k,v)::ps,(k',b,u)::qs,.cons h t,acc,acc',r=>by
  £⟨h1,h2,h3⟩:=h;¤h1:k=k':=h1;subst h1;§KT.merge t (r.put k h2 h3)
section
variable {X:Cx}
theorem mq (hu:X.A.units+8 < cLine):gw X (.type "dict") (λxs H Q=>X.calm=true∧∃(a:Addr) (rs:List V) (ps:List (List Key×V)),xs=[.ref a]∧H a=some (.lst rs)∧rs.length=ps.length∧(∀(i:Nat) (p:List Key×V),ps[i]?=some p→∃t b,rs[i]?=some (.ref t)∧H t=some (.tup [.ref b,p.2])∧H b=some (.tup (p.1.map kV)))∧∀d,H d=none→Q (.ref d) (upd H d (.dT (ko ps [])))):=by
 ¿pins s σ H xs us Q I r h;£⟨hc,a,rs,ps,rfl,ha,hl,hp,q⟩:=h;£⟨u,rfl,rx⟩:=vals1 r;cases rx
 £⟨z,its,n,rv,e⟩:=I.hok a _ ha;¤hl2:=rv.length;£⟨qs,kt,hq⟩:∃qs:List (List Key×Addr×Value),KT H ps qs∧∀(i:Nat) (k:List Key) (b:Addr) (y:Value),qs[i]?=some (k,b,y)→∃(T:Addr) (o:Obj) (m:Nat),its[i]?=some (.ref T)∧H b=some (.tup (k.map kV))∧s.heap.get? T=some o∧o.cls=.type "tuple"∧o.data=.seq #[.ref b,y] m:=by
  ¤one:∀(i:Nat) (p:List Key×V),ps[i]?=some p→∃(b:Addr) (y:Value) (T:Addr) (o:Obj) (m:Nat),RelV p.2 y∧its[i]?=some (.ref T)∧H b=some (.tup (p.1.map kV))∧s.heap.get? T=some o∧o.cls=.type "tuple"∧o.data=.seq #[.ref b,y] m:=λi p hi=>by
   £⟨t,b,h1,h2,h3⟩:=hp i p hi;£⟨u,hu,ru⟩:=rv.get h1;cases (show u=Value.ref t from ru)
   £⟨_,js,rj,o,g1,g2,m,g3⟩:=vz I.hok h2;£⟨x,y,rfl,rx,ry⟩:=vals2 rj;cases (show x=Value.ref b from rx)
   §⟨b,y,t,o,m,ry,hu,h3,g1,g2,g3⟩
  clear hp q hl ha rv hl2 e z;clear hc;suffices go:∀(ps:List (List Key×V)) (its:List Value),(∀(i:Nat) (p:List Key×V),ps[i]?=some p→∃(b:Addr) (y:Value) (T:Addr) (o:Obj) (m:Nat),RelV p.2 y∧its[i]?=some (.ref T)∧H b=some (.tup (p.1.map kV))∧s.heap.get? T=some o∧o.cls=.type "tuple"∧o.data=.seq #[.ref b,y] m)→∃qs:List (List Key×Addr×Value),KT H ps qs∧∀(i:Nat) (k:List Key) (b:Addr) (y:Value),qs[i]?=some (k,b,y)→∃(T:Addr) (o:Obj) (m:Nat),its[i]?=some (.ref T)∧H b=some (.tup (k.map kV))∧s.heap.get? T=some o∧o.cls=.type "tuple"∧o.data=.seq #[.ref b,y] m from go ps its one
  ¿ps;induction ps with
  | nil=>§λits _=>⟨[],.nil,λi k b y h=>by simp at h⟩
  | cons p ps ih=>
   ¿its one;£⟨qs,k1,k2⟩:=ih its.tail λi p' hi=>by
    £⟨b,y,T,o,m,h1,h2,h3⟩:=one (i+1) p' hi;§⟨b,y,T,o,m,h1,by rw[List.getElem?_tail];§h2,h3⟩
   £⟨b,y,T,o,m,h1,h2,h3,h4⟩:=one 0 p rfl;¶⟨(p.1,b,y)::qs,.cons ⟨rfl,h3,h1⟩ k1,λi k b' y' hi=>?_⟩;cases i with
   | zero=>
    cases hi
    §⟨T,o,m,h2,h3,h4⟩
   | succ i=>
    £⟨T,o,m,g1,g2⟩:=k2 i k b' y' hi;§⟨T,o,m,by rw[List.getElem?_tail] at g1;§g1,g2⟩
 ¤lq:=Paired.length kt;¶Zd.mq ¥ (I.ok.hd hc) e qs (by rw[List.size_toArray];¡) (λi k b y hi=>?_) ¥ λh' tk hd keep=>?_
 ·£⟨T,o,m,g1,g2,g3,g4,g5⟩:=hq i k b y hi;§⟨T,o,m,by rw[List.getElem?_toArray];§g1,(λz=>nomatch z),(λz=>nomatch z),mf I.hok g2,g3,g4,g5⟩
 ·¤zl:(ko ps []).length≤sizeLine:=by
   have:=xa ps [];rw[List.length_nil] at this;¡
  ¤fr:=I.hok.fresh (Nat.le_refl s.heap.objs.size);£⟨o,es,ep,r1,r2,r3,r4,_,r6⟩:=hd;¶⟨.ref s.heap.objs.size,_,I.laid (t':=tk) (λb u e=>keep b u e) (Nat.le_refl _) (show br X.prog X.w _ _ _ (.dT (ko ps [])) from ⟨zl,?_,_,(KT.merge kt .nil).keeps λc ys ec=>?_,o,es,ep,r1,r2,r3,r4,r6⟩),rfl,q _ fr⟩
  ·§beq_eq_false_iff_ne.mpr (Ne.symm (Nat.ne_of_lt I.big))
  ·rw[af (ag ec fr)];§ec
end
namespace Zd
section
variable {prog:Program} {w:World} {A:Around} {E:Value→Shared→Prop} {s:Shared}
end
end Zd
section
variable {X:Cx}
end
end L2
namespace Pc
open PySem PySem.Spec L2 PyProof.Rows Fm
abbrev Ky:=Nat×Str
noncomputable def kyK (k:Ky):List Key:=[Sum.inl (k.1:Int),Sum.inr k.2]
theorem oy {a b:Ky} (h:kyK a=kyK b):a=b:=by
 £⟨a1,a2⟩:=a;£⟨b1,b2⟩:=b;unfold kyK at h;simp only[List.cons.injEq,Sum.inl.injEq,Sum.inr.injEq,and_true] at h;rw[h.2,show a1=b1 by ¡]
noncomputable def kyT (k:Ky):HO:=.tup [.int (k.1:Int),.str k.2]
def dc (H:Hp) (d:Addr) (g:Ky→Option Int) (n:Nat):Prop:=∃kvs:List (List Key×V),H d=some (.dT kvs)∧kvs.length≤n∧∀k,dh kvs (kyK k)=(g k).map V.int
theorem dc.get {H:Hp} {d b:Addr} {g:Ky→Option Int} {n:Nat} {k:Ky} (h:dc H d g n) (hb:H b=some (kyT k)):jz H d (.ref b) ((g k).map V.int):=by
 £⟨kvs,h1,_,h3⟩:=h;rw[←h3 k];§jz.t h1 hb
theorem dc.val {H:Hp} {d b:Addr} {g:Ky→Option Int} {n:Nat} {k:Ky} {v:Int} (h:dc H d g n) (hb:H b=some (kyT k)) (e:g k=some v):jz H d (.ref b) (some (.int v)):=by
 have:=h.get hb;rw[e] at this;§this
theorem dc.mono {H:Hp} {d:Addr} {g:Ky→Option Int} {n m:Nat} (h:dc H d g n) (e:n≤m):dc H d g m:=by
 £⟨kvs,h1,h2,h3⟩:=h;§⟨kvs,h1,¥,h3⟩
theorem dc.at {H H':Hp} {d:Addr} {g:Ky→Option Int} {n:Nat} (h:dc H d g n) (e:∀o,H d=some o→H' d=some o):dc H' d g n:=by
 £⟨kvs,h1,h2⟩:=h;§⟨kvs,e _ h1,h2⟩
theorem dc.same {H H':Hp} {d:Addr} {g:Ky→Option Int} {n:Nat} (h:dc H d g n) (s:ak H H'):dc H' d g n:=h.at λo e=>s _ _ e
theorem dc.nil {H:Hp} {d:Addr}:dc (upd H d (.dT [])) d (λ_=>none) 0:=⟨[],ae,Nat.le_refl _,λ_=>rfl⟩
theorem dc.put {H:Hp} {d b:Addr} {g:Ky→Option Int} {n:Nat} {k:Ky} {v:Int} (h:dc H d g n) (hb:H b=some (kyT k)) (hn:n≤1000000):
  ∃o,vw H d (.ref b) (.int v) (upd H d o)∧dc (upd H d o) d (gb g k v) (if (g k).isSome then n else n+1):=by
 £⟨kvs,h1,h2,h3⟩:=h;¤sz:=sizeLine_eq;¶⟨.dT (putK kvs (kyK k) (.int v)),vw.t h1 hb ¥,_,ae,?_,λj=>?_⟩
 ·¤hk:=h3 k;cases e:g k with
  | none=>
   have:=gj kvs (kyK k) (.int v);simp only[Option.isSome_none,Bool.false_eq_true,if_false];¡
  | some w=>
   rw[e] at hk;¤ha:(kvs.any λkv=>decide (kv.1=kyK k))=true:=by rw[fo,hk];rfl
   simp only[Option.isSome_some,if_true];unfold putK;rw[if_pos ha,List.length_map];§h2
 ·rw[Cr];¦e:j=k
  ·subst e;rw[if_pos rfl,cf];rfl
  ·rw[if_neg (λz=>e (oy z)),dw e];§h3 j
theorem dc.bound {H:Hp} {d:Addr} {g:Ky→Option Int} {n:Nat} (h:dc H d g n):∃D:Nat,∀k v,g k=some v→v≤(D:Int):=by
 £⟨kvs,h1,_,h3⟩:=h;£⟨B,hB⟩:=nu (λp:List Key×V=>match p.2 with | .int i=>i.toNat | _=>0) kvs;¶⟨B,λk v e=>?_⟩;¤hk:=h3 k;rw[e] at hk;unfold dh at hk;£⟨p,hp,e2⟩:=Option.map_eq_some_iff.mp hk;have:=hB p (List.mem_of_find?_eq_some hp);rw[show p.2=V.int v from e2] at this;have:v.toNat≤B:=this;¡
structure Kx (no:Addr→Prop) (H H':Hp):Prop where
 t:∀{a:Addr} {xs:List V},H a=some (.tup xs)→H' a=some (.tup xs)
 l:∀{a:Addr} {xs:List V},¬no a→H a=some (.lst xs)→H' a=some (.lst xs)
theorem Kx.same {no:Addr→Prop} {H H':Hp} (s:ak H H'):Kx no H H':=⟨λh=>s _ _ h,λ_ h=>s _ _ h⟩
theorem Kx.trans {no:Addr→Prop} {H H1 H2:Hp} (a:Kx no H H1) (b:Kx no H1 H2):Kx no H H2:=⟨λh=>b.t (a.t h),λn h=>b.l n (a.l n h)⟩
theorem Kx.weak {no no':Addr→Prop} {H H':Hp} (a:Kx no H H') (h:∀x,no x→no' x):Kx no' H H':=⟨a.t,λn e=>a.l (λz=>n (h _ z)) e⟩
theorem Kx.upd {x:Addr} {H:Hp} {ys:List V} {o:HO} (h:H x=some (.lst ys)):Kx (·=x) H (L2.upd H x o):=⟨λe=>by rw[af (df e h (by ¿z;cases z))];§e,λn e=>by rw[af n];§e⟩
theorem Kx.dict {no:Addr→Prop} {d:Addr} {H H':Hp} {kvs:List (List Key×V)} (h:H d=some (.dT kvs)) (s:aq d H H'):Kx no H H':=⟨λe=>s _ _ (df e h (by ¿z;cases z)) e,λ_ e=>s _ _ (df e h (by ¿z;cases z)) e⟩
theorem Kx.tb {no:Addr→Prop} {d:Addr} {H H':Hp} {g:Ky→Option Int} {n:Nat} (h:dc H d g n) (s:aq d H H'):Kx no H H':=by
 £⟨kvs,h1,_⟩:=h;§Kx.dict h1 s
def mr (H:Hp) (l:Addr) (hs:List Ky):Prop:=∃as:List Addr,H l=some (.lst (as.map V.ref))∧as.length=hs.length∧∀(j:Nat) (k:Ky),hs[j]?=some k→∃a,as[j]?=some a∧H a=some (kyT k)
theorem mr.kx {no:Addr→Prop} {H H':Hp} {l:Addr} {hs:List Ky} (h:mr H l hs) (x:Kx no H H') (n:¬no l):mr H' l hs:=by
 £⟨as,h1,h2,h3⟩:=h;§⟨as,x.l n h1,h2,λj k e=>by
  £⟨a,g1,g2⟩:=h3 j k e;§⟨a,g1,x.t g2⟩⟩
theorem mr.same {H H':Hp} {l:Addr} {hs:List Ky} (h:mr H l hs) (s:ak H H'):mr H' l hs:=h.kx (no:=λ_=>False) (Kx.same s) id
structure Fr where
 name:Str
 kind:Str
 own:Int
 hs:List Ky
def FrAt (H:Hp) (no:Addr→Prop) (a:Addr) (f:Fr):Prop:=∃hl,¬no hl∧H a=some (.tup [.str f.name,.str f.kind,.int f.own,.ref hl])∧mr H hl f.hs
def dj (H:Hp) (no:Addr→Prop) (as:List Addr) (fs:List Fr):Prop:=as.length=fs.length∧∀(j:Nat) (f:Fr),fs[j]?=some f→∃a,as[j]?=some a∧FrAt H no a f
theorem dj.kx {no:Addr→Prop} {H H':Hp} {as:List Addr} {fs:List Fr} (h:dj H no as fs) (x:Kx no H H'):dj H' no as fs:=⟨h.1,λj f e=>by
 £⟨a,g1,hl,g2,g3,g4⟩:=h.2 j f e;§⟨a,g1,hl,g2,x.t g3,g4.kx x g2⟩⟩
theorem dj.weak {no no':Addr→Prop} {H:Hp} {as:List Addr} {fs:List Fr} (h:dj H no as fs) (w:∀x,no' x→no x):dj H no' as fs:=⟨h.1,λj f e=>by
 £⟨a,g1,hl,g2,g3⟩:=h.2 j f e;§⟨a,g1,hl,λz=>g2 (w _ z),g3⟩⟩
theorem dj.snoc {no:Addr→Prop} {H:Hp} {as:List Addr} {fs:List Fr} {a:Addr} {f:Fr} (h:dj H no as fs) (hf:FrAt H no a f):dj H no (as++[a]) (fs++[f]):=by
 ¶⟨by rw[List.length_append,List.length_append,h.1];rfl,λi f' hi=>?_⟩;¦c:i < fs.length
 ·rw[List.getElem?_append_left c] at hi;£⟨a',g1,g2⟩:=h.2 i f' hi;§⟨a',by rw[List.getElem?_append_left (by rw[h.1];§c)];§g1,g2⟩
 ·rw[List.getElem?_append_right ¥] at hi;¤hz:i - fs.length=0:=by
   rcases Nat.eq_zero_or_pos (i - fs.length) with g | g
   ·§g
   ·rw[List.getElem?_eq_none (by rw[List.length_singleton];¡)] at hi;cases hi
  rw[hz] at hi;cases hi
  §⟨a,by rw[List.getElem?_append_right (by rw[h.1];¡),h.1,hz];rfl,hf⟩
theorem dj.nil (H:Hp) (no:Addr→Prop):dj H no [] []:=⟨rfl,λj f h=>by simp at h⟩
noncomputable def ba (kinds:List Str) (sh:List V):List Str:=sh.filterMap λv=>match v with
 | .str z=>if z∈kinds then some z else none
 | _=>none
noncomputable def fm (p:Nat) (f:Fr):Ft Ky:=⟨(p,f.kind),f.own,f.hs⟩
noncomputable def kg (kinds:List Str) (ws:List V) (p:Nat) (r:Rl):Option Fr:=(dy kinds ws r.shape p ⟨[],[],[]⟩).map λu=>⟨r.name,r.kind,r.price,u.hs.zip (ba kinds r.shape)⟩
noncomputable def bp (kinds:List Str) (rs:List Rl) (ws:List V) (p:Nat):List Fr:=rs.filterMap (kg kinds ws p)
structure Rw where
 place:Nat
 kind:Str
 price:Int
 names:List Str
def RwAt (H:Hp) (no:Addr→Prop) (a:Addr) (r:Rw):Prop:=∃nl,¬no nl∧H a=some (.tup [.int (r.place:Int),.str r.kind,.int r.price,.ref nl])∧H nl=some (.lst (r.names.map V.str))
def cb (H:Hp) (no:Addr→Prop) (as:List Addr) (rs:List Rw):Prop:=as.length=rs.length∧∀(j:Nat) (r:Rw),rs[j]?=some r→∃a,as[j]?=some a∧RwAt H no a r
theorem cb.kx {no:Addr→Prop} {H H':Hp} {as:List Addr} {rs:List Rw} (h:cb H no as rs) (x:Kx no H H'):cb H' no as rs:=⟨h.1,λj f e=>by
 £⟨a,g1,hl,g2,g3,g4⟩:=h.2 j f e;§⟨a,g1,hl,g2,x.t g3,x.l g2 g4⟩⟩
theorem cb.weak {no no':Addr→Prop} {H:Hp} {as:List Addr} {rs:List Rw} (h:cb H no as rs) (w:∀x,no' x→no x):cb H no' as rs:=⟨h.1,λj f e=>by
 £⟨a,g1,hl,g2,g3⟩:=h.2 j f e;§⟨a,g1,hl,λz=>g2 (w _ z),g3⟩⟩
theorem cb.nil (H:Hp) (no:Addr→Prop):cb H no [] []:=⟨rfl,λj f h=>by simp at h⟩
theorem cb.append {no:Addr→Prop} {H:Hp} {as bs:List Addr} {rs qs:List Rw} (h:cb H no as rs) (h':cb H no bs qs):cb H no (as++bs) (rs++qs):=by
 ¶⟨by rw[List.length_append,List.length_append,h.1,h'.1],λi r hi=>?_⟩;¦c:i < rs.length
 ·rw[List.getElem?_append_left c] at hi;£⟨a',g1,g2⟩:=h.2 i r hi;§⟨a',by rw[List.getElem?_append_left (by rw[h.1];§c)];§g1,g2⟩
 ·rw[List.getElem?_append_right ¥] at hi;£⟨a',g1,g2⟩:=h'.2 _ r hi;§⟨a',by rw[List.getElem?_append_right (by rw[h.1];¡),h.1];§g1,g2⟩
theorem cb.one {no:Addr→Prop} {H:Hp} {a:Addr} {r:Rw} (h:RwAt H no a r):cb H no [a] [r]:=⟨rfl,λj r' e=>by
 cases j with
 | zero=>cases e;§⟨a,rfl,h⟩
 | succ j=>simp at e⟩
noncomputable def namesW (fs:List Fr) (g:Ky→Option Int) (k:Str) (v:Int):List Str:=(fs.filter λf=>decide (f.kind=k∧cost g f.own f.hs=some v)).map (·.name)
noncomputable def dn (ks:List Str) (fs:List Fr) (p:Nat) (g:Ky→Option Int):List Rw:=ks.filterMap λk=>(g (p,k)).map λv=>⟨p,k,v,namesW fs g k v⟩
noncomputable def rowsOf (kinds:List Str) (rs:List Rl) (ws:List V) (g:Ky→Option Int):List Rw:=(List.range ws.length).flatMap λp=>dn (cv kinds) (bp kinds rs ws p) p g
noncomputable def m8 (kinds:List Str) (rs:List Rl) (ws:List V):List (Ft Ky):=(List.range ws.length).flatMap λp=>(bp kinds rs ws p).map (fm p)
def ou (K:PySem.W.Frag):Sp:=λvs H Q _=>∃(st kt ut:Addr) (sh:List V) (kinds:List Str) (u:Und),vs=[.ref st,.ref kt,.ref ut]∧SqT K H st sh∧SqT K H kt (kinds.map V.str)∧Kd H ut u∧Kinds kinds∧(∀v∈sh,isW v)∧sh.length≤1000∧u.hs.length=(ba kinds sh).length∧∀(l:Addr) (H':Hp),ak H H'→H l=none→mr H' l (u.hs.zip (ba kinds sh))→Q (.ref l) H'
def kq:Sp:=λvs H Q _=>∃(b wt:Addr) (kinds:List Str) (rs:List Rl) (ws:List V) (p:Nat),vs=[.ref b,.ref wt,.int (p:Int)]∧cy H b kinds rs∧H wt=some (.tup ws)∧Bk kinds rs∧Tw ws∧p < ws.length∧∀(l:Addr) (as:List Addr) (H':Hp),ak H H'→H l=none→H' l=some (.lst (as.map V.ref))→dj H' (λx=>H x≠none) as (bp kinds rs ws p)→Q (.ref l) H'
def jm:Sp:=λvs H Q _=>∃(own:Int) (hl d:Addr) (hs:List Ky) (g:Ky→Option Int) (n:Nat),vs=[.int own,.ref hl,.ref d]∧mr H hl hs∧dc H d g n∧Q (match cost g own hs with | none=>.non | some c=>.int c) H
def pb:Sp:=λvs H Q _=>∃(p:Nat) (fl d:Addr) (as:List Addr) (fs:List Fr) (g:Ky→Option Int) (n:Nat),vs=[.int (p:Int),.ref fl,.ref d]∧H fl=some (.lst (as.map V.ref))∧dj H (λ_=>False) as fs∧dc H d g n∧n+fs.length≤1000000∧(∀f∈fs,1≤f.own)∧(∀k v,g k=some v→1≤v)∧(∀k,k.1=p→g k=none)∧
 ∀(H':Hp) (g':Ky→Option Int),aq d H H'→dc H' d g' (n+fs.length)→jh (fs.map (fm p)) g'→(∀k,k.1≠p→g' k=g k)→(∀k v,k.1=p→g' k=some v→∃f∈fs.map (fm p),f.key=k∧∃c,cost g' f.own f.hs=some c∧c≤v)→(∀k v,g' k=some v→1≤v)→Q .non H'
def zj:Sp:=λvs H Q _=>∃(k:Str) (v:Int) (fl d:Addr) (as:List Addr) (fs:List Fr) (g:Ky→Option Int) (n:Nat),vs=[.str k,.int v,.ref fl,.ref d]∧H fl=some (.lst (as.map V.ref))∧dj H (λ_=>False) as fs∧fs.length≤1000∧dc H d g n∧∀(l:Addr) (H':Hp),ak H H'→H l=none→H' l=some (.lst ((namesW fs g k v).map V.str))→Q (.ref l) H'
def uh:Sp:=λvs H Q _=>∃(b fl d:Addr) (p:Nat) (kinds:List Str) (rs:List Rl) (as:List Addr) (fs:List Fr) (g:Ky→Option Int) (n:Nat),vs=[.ref b,.int (p:Int),.ref fl,.ref d]∧cy H b kinds rs∧kinds.length≤60∧H fl=some (.lst (as.map V.ref))∧dj H (λ_=>False) as fs∧fs.length≤1000∧dc H d g n∧∀(l:Addr) (bs:List Addr) (H':Hp),ak H H'→H l=none→H' l=some (.lst (bs.map V.ref))→cb H' (λx=>H x≠none) bs (dn (cv kinds) fs p g)→Q (.ref l) H'
def uc:Sp:=λvs H Q _=>∃(b wt:Addr) (kinds:List Str) (rs:List Rl) (ws:List V),vs=[.ref b,.ref wt]∧cy H b kinds rs∧H wt=some (.tup ws)∧Bk kinds rs∧Tw ws∧∀(l:Addr) (bs:List Addr) (H':Hp) (g:Ky→Option Int),ak H H'→H l=none→H' l=some (.lst (bs.map V.ref))→Tbl (m8 kinds rs ws) g→cb H' (λx=>H x≠none) bs (rowsOf kinds rs ws g)→Q (.ref l) H'
end Pc
namespace Pc
open PySem PySem.Spec L2 PyProof.Rows Fm
noncomputable def isH (kinds:List Str):V→Bool
 | .str z=>decide (z∈kinds)
 | _=>false
theorem o9 {kinds:List Str} {v:V} (hv:isW v):inV v (kinds.map V.str)=isH kinds v:=by
 £⟨k,rfl⟩:=hv;cases k with
 | inl i=>
  show inV (.int i) (kinds.map V.str)=false
  induction kinds with
  | nil=>rfl
  | cons z r ih=>§ih
 | inr z=>
  show inV (.str z) (kinds.map V.str)=decide (z∈kinds)
  ¦h:z∈kinds
  ·rw[decide_eq_true h];§t8 (List.mem_map.mpr ⟨z,h,rfl⟩)
  ·rw[decide_eq_false h];cases e:inV (.str z) (kinds.map V.str) with
   | false=>rfl
   | true=>
    £⟨y,hy,e'⟩:=List.mem_map.mp (la e);cases e'
    §absurd hy h
theorem ny {kinds:List Str} (hk:Kinds kinds) {v:V} (hv:isW v):cm kinds v=lH↔isH kinds v=true:=by
 £⟨b1,b2,b3,_,_,_⟩:=lets;rcases gh (kinds:=kinds) hv with ⟨rfl,h⟩ | ⟨rfl,h⟩ | ⟨⟨z,hz,rfl⟩,h⟩ | ⟨h,hno⟩
 ·rw[h];¶⟨λe=>absurd e b1,λe=>?_⟩;§absurd rfl (hk _ (of_decide_eq_true (show decide (Str.ofString "any"∈kinds)=true from e))).2.1
 ·rw[h];¶⟨λe=>absurd e b2,λe=>?_⟩;§absurd rfl (hk _ (of_decide_eq_true (show decide (Str.ofString "var"∈kinds)=true from e))).2.2
 ·§⟨λ_=>decide_eq_true hz,λ_=>h⟩
 ·rw[h];¶⟨λe=>absurd e b3,λe=>?_⟩;rw[o9 hv,e] at hno;cases hno
theorem Ek (kinds:List Str) (v:V) (r:List V):ba kinds (v::r)=(match v with | .str z=>if z∈kinds then [z] else [] | _=>[])++ba kinds r:=by
 unfold ba;rw[List.filterMap_cons];cases v with
 | str z=>
  ¦h:z∈kinds
  ·simp[h]
  ·simp[h]
 | _=>rfl
theorem jc (kinds:List Str):∀(sh:List V),(ba kinds sh).map V.str=sh.filter (isH kinds)
 | []=>rfl
 | v::r=>by
  rw[Ek,List.map_append,jc kinds r,List.filter_cons];cases v with
  | str z=>
   ¦h:z∈kinds
   ·simp[h,isH]
   ·simp[h,isH]
  | _=>simp[isH]
theorem Jg (kinds:List Str) (v:V) (r:List V):(ba kinds (v::r)).length=(if isH kinds v=true then 1 else 0)+(ba kinds r).length:=by
 ¤e:=congrArg List.length (jc kinds (v::r));¤e':=congrArg List.length (jc kinds r);rw[List.length_map] at e e';rw[e,e',List.filter_cons];¦h:isH kinds v=true
 ·rw[if_pos h,if_pos h,List.length_cons];¡
 ·rw[if_neg h,if_neg h];¡
theorem sf {kinds:List Str} {ws:List V} (hk:Kinds kinds):∀(sh:List V) (p:Nat) (u u':Und),(∀v∈sh,isW v)→dy kinds ws sh p u=some u'→u'.hs.length=u.hs.length+(ba kinds sh).length∧∀h∈u'.hs,h∈u.hs∨p≤h
 | [],p,u,u',_,h=>by
  ¤h:some u=some u':=h;cases h
  §⟨rfl,λ_ m=>.inl m⟩
 | v::r,p,u,u',hw,h=>by
  rw[m6] at h;¦c:lies (cm kinds v) v (ws.getD p .non)=true
  ·rw[if_pos c] at h;£⟨i1,i2⟩:=sf hk r _ _ u' (λx m=>hw x (List.mem_cons_of_mem _ m)) h;¤hv:=hw v List.mem_cons_self;rw[Jg];¦e:isH kinds v=true
   ·¤e':=(ny hk hv).mpr e;¤ep:u.put (cm kinds v) p (ws.getD p .non)=⟨u.hs++[p],u.ns,u.vs⟩:=by
     unfold Und.put;rw[if_pos e']
    rw[ep] at i1 i2;rw[if_pos e'] at i2;rw[if_pos e];¤i1:u'.hs.length=(u.hs++[p]).length+(ba kinds r).length:=i1;rw[List.length_append,List.length_singleton] at i1;¶⟨¥,λh m=>?_⟩;¤le:p≤endAt ws p:=Nat.le_add_right _ _;rcases i2 h m with g | g
    ·rcases List.mem_append.mp (show h∈u.hs++[p] from g) with g | g
     ·§.inl g
     ·rw[List.mem_singleton.mp g];§.inr (Nat.le_refl _)
    ·§.inr ¥
   ·¤e':¬cm kinds v=lH:=λz=>e ((ny hk hv).mp z);¤ep:(u.put (cm kinds v) p (ws.getD p .non)).hs=u.hs:=by
     unfold Und.put;rw[if_neg e'];split
     ·rfl
     split
     ·rfl
     ·rfl
    rw[ep] at i1 i2;rw[if_neg e'] at i2;rw[if_neg e];¶⟨¥,λh m=>?_⟩;rcases i2 h m with g | g
    ·§.inl g
    ·§.inr ¥
  ·rw[if_neg c] at h;cases h
theorem kz {kinds:List Str} {rs:List Rl} {ws:List V} (bk:Bk kinds rs) {p:Nat} {f:Fr} (h:f∈bp kinds rs ws p):1≤f.own∧f.kind∈kinds∧(∀k∈f.hs,p≤k.1)∧∃r∈rs,r.name=f.name∧r.kind=f.kind∧r.price=f.own∧∃u,dy kinds ws r.shape p ⟨[],[],[]⟩=some u∧f.hs=u.hs.zip (ba kinds r.shape):=by
 £⟨r,hr,e⟩:=List.mem_filterMap.mp h;£⟨u,hu,rfl⟩:=Option.map_eq_some_iff.mp e;¶⟨bk.pr r hr,bk.rk r hr,λk hk=>?_,r,hr,rfl,rfl,rfl,u,hu,rfl⟩;have:=(sf bk.kd r.shape p _ u (bk.sh r hr).1 hu).2 k.1 (List.of_mem_zip (show (k.1,k.2)∈u.hs.zip (ba kinds r.shape) from hk)).1;rcases this with g | g
 ·cases g
 ·§g
theorem Lc (kinds:List Str) (rs:List Rl) (ws:List V) (p:Nat):(bp kinds rs ws p).length≤rs.length:=List.length_filterMap_le _ _
end Pc
namespace Pc
open PySem PySem.Spec L2 PyProof.Rows Fm
noncomputable def gOf (H:Hp) (d:Addr):Ky→Option Int:=λk=>match H d with
 | some (.dT kvs)=>match dh kvs (kyK k) with
  | some (.int i)=>some i
  | _=>none
 | _=>none
theorem zo {H:Hp} {d:Addr} {g:Ky→Option Int} {n:Nat} (h:dc H d g n):gOf H d=g:=by
 £⟨kvs,h1,_,h3⟩:=h;funext k
 unfold gOf;rw[h1];show (match dh kvs (kyK k) with | some (.int i)=>some i | _=>none)=g k
 rw[h3 k];cases g k <;> rfl
structure SetI (p:Nat) (fs:List Fr) (g0:Ky→Option Int) (Ok:(Ky→Option Int)→Prop) (g:Ky→Option Int):Prop where
 ok:Ok g
 far:∀k,k.1≠p→g k=g0 k
 due:∀k v,k.1=p→g k=some v→∃f∈fs.map (fm p),f.key=k∧∃c,cost g f.own f.hs=some c∧c≤v
theorem SetI.put {p:Nat} {fs:List Fr} {g0:Ky→Option Int} {Ok:(Ky→Option Int)→Prop} {g:Ky→Option Int} (h:SetI p fs g0 Ok g) {f:Fr} (hf:f∈fs) {c:Int} (hc:cost g f.own f.hs=some c) (im:Imp g (p,f.kind) c) (ok':Ok (gb g (p,f.kind) c)):SetI p fs g0 Ok (gb g (p,f.kind) c):=by
 ¶⟨ok',λk hk=>?_,λk v hk hv=>?_⟩
 ·rw[dw λe=>hk (by rw[e])];§h.far k hk
 ·¤up:∀{f':Ft Ky} {c':Int},cost g f'.own f'.hs=some c'→∃x,cost (gb g (p,f.kind) c) f'.own f'.hs=some x∧x≤c':=λh=>sr (λk _ v hv=>im.le hv) (Int.le_refl _) h;¦e:k=(p,f.kind)
  ·subst e;rw[cf] at hv;cases hv
   £⟨x,hx,le⟩:=up (f':=fm p f) hc;§⟨fm p f,List.mem_map.mpr ⟨f,hf,rfl⟩,rfl,x,hx,le⟩
  ·rw[dw e] at hv;£⟨f',hf',e',c',hc',le⟩:=h.due k v hk hv;£⟨x,hx,le'⟩:=up hc';§⟨f',hf',e',x,hx,¥⟩
def Mm (p:Nat) (g:Ky→Option Int) (f:Fr):Prop:=∀c,cost g f.own f.hs=some c→∃v,g (p,f.kind)=some v∧v≤c
theorem Iv {p:Nat} {fs:List Fr} {g:Ky→Option Int} (h:∀(j:Nat) (f:Fr),fs[j]?=some f→Mm p g f):jh (fs.map (fm p)) g:=λf' hf' c hc=>by
 £⟨f,hf,rfl⟩:=List.mem_map.mp hf';£⟨j,hj⟩:=List.mem_iff_getElem?.mp hf;§h j f hj c hc
theorem cnt_up {p:Nat} {fs:List Fr} {g:Ky→Option Int} {f:Fr} (hf:f∈fs) {c:Int} {n:Nat}:(if (g (p,f.kind)).isSome then n+cnt (fs.map (fm p)) g else n+cnt (fs.map (fm p)) g+1)≤n+cnt (fs.map (fm p)) (gb g (p,f.kind) c):=by
 cases e:g (p,f.kind) with
 | none=>
  have:=t7 (c:=c) e (fs.map (fm p)) ⟨fm p f,List.mem_map.mpr ⟨f,hf,rfl⟩,rfl⟩;simp only[Option.isSome_none,Bool.false_eq_true,if_false];¡
 | some v=>
  have:=j9 (g:=g) (g':=gb g (p,f.kind) c) (fs.map (fm p)) λf' _ e=>by
   ¦q:f'.key=(p,f.kind)
   ·rw[q,cf];rfl
   ·rw[dw q];§e
  simp only[Option.isSome_some,if_true];¡
theorem aq.tb {d:Addr} {H:Hp} (o:HO):aq d H (L2.upd H d o):=λb u n h=>by rw[af n];§h
noncomputable def blAt (σ:List (Option V)):Nat:=match σ[3]? with
 | some (some (V.bl false))=>1
 | _=>0
end Pc
namespace Pc
open PySem PySem.Spec L2 PyProof.Rows Fm
structure xr (kinds:List Str) (rs:List Rl) (ws:List V) (p:Nat) (g:Ky→Option Int):Prop where
 at':∀k v,g k=some v→p≤k.1∧k.1 < ws.length
 st:∀q,p≤q→q < ws.length→jh ((bp kinds rs ws q).map (fm q)) g
 due:∀k v,g k=some v→∃f∈(bp kinds rs ws k.1).map (fm k.1),f.key=k∧∃c,cost g f.own f.hs=some c∧c≤v
 pos:∀k v,g k=some v→1≤v
theorem xr.start (kinds:List Str) (rs:List Rl) (ws:List V):xr kinds rs ws ws.length (λ_=>none):=⟨(λk v h=>nomatch h),(λq h1 h2=>by ¡),(λk v h=>nomatch h),(λk v h=>nomatch h)⟩
theorem wz {kinds:List Str} {rs:List Rl} {ws:List V} (bk:Bk kinds rs) {p q:Nat} {g g':Ky→Option Int} (hq:p < q) (far:∀k,k.1≠p→g' k=g k) {f:Fr} (hf:f∈bp kinds rs ws q) (c:Int):cost g' c f.hs=cost g c f.hs:=vj λk hk=>far k (by have:=(kz bk hf).2.2.1 k hk;¡)
theorem xr.step {kinds:List Str} {rs:List Rl} {ws:List V} (bk:Bk kinds rs) {p:Nat} {g g':Ky→Option Int} (h:xr kinds rs ws (p+1) g) (hp:p < ws.length) (st:jh ((bp kinds rs ws p).map (fm p)) g') (far:∀k,k.1≠p→g' k=g k)
  (due:∀k v,k.1=p→g' k=some v→∃f∈(bp kinds rs ws p).map (fm p),f.key=k∧∃c,cost g' f.own f.hs=some c∧c≤v) (pos:∀k v,g' k=some v→1≤v):xr kinds rs ws p g':=by
 ¶⟨λk v hv=>?_,λq h1 h2=>?_,λk v hv=>?_,pos⟩
 ·¦e:k.1=p
  ·¡
  ·rw[far k e] at hv;have:=h.at' k v hv;¡
 ·¦e:q=p
  ·subst e;§st
  ·¿f hf c hc;£⟨f',hf',rfl⟩:=List.mem_map.mp hf;¤hc:cost g' f'.own f'.hs=some c:=hc;rw[wz bk (show p < q by ¡) far hf'] at hc;£⟨v,hv,le⟩:=h.st q ¥ h2 (fm q f') hf c hc;§⟨v,by rw[far _ (show q≠p from e)];§hv,le⟩
 ·¦e:k.1=p
  ·£⟨f,hf,e1,r⟩:=due k v e hv;rw[e];§⟨f,hf,e1,r⟩
  ·rw[far k e] at hv;£⟨f,hf,e1,c,hc,le⟩:=h.due k v hv;£⟨f',hf',rfl⟩:=List.mem_map.mp hf;have:=(h.at' k v hv).1;¶⟨_,hf,e1,c,?_,le⟩;show cost g' f'.own f'.hs=some c
   rw[wz bk (show p < k.1 by ¡) far hf'];§hc
theorem Kb {kinds:List Str} {rs:List Rl} {ws:List V} (bk:Bk kinds rs) {p q:Nat} {g g':Ky→Option Int} (hq:p < q) (far:∀k,k.1≠p→g' k=g k) (ks:List Str):dn ks (bp kinds rs ws q) q g'=dn ks (bp kinds rs ws q) q g:=by
 unfold dn;¤e:(λk=>(g' (q,k)).map λv=>(⟨q,k,v,namesW (bp kinds rs ws q) g' k v⟩:Rw))=λk=>(g (q,k)).map λv=>⟨q,k,v,namesW (bp kinds rs ws q) g k v⟩:=by
  funext k
  rw[far (q,k) (show q≠p by ¡)];congr 1
  funext v
  congr 1
  unfold namesW;congr 1
  apply List.filter_congr
  ¿f hf;rw[wz bk hq far hf]
 rw[e]
theorem xr.tbl {kinds:List Str} {rs:List Rl} {ws:List V} {g:Ky→Option Int} (h:xr kinds rs ws 0 g):Tbl (m8 kinds rs ws) g:=by
 ¶⟨λf hf c hc=>?_,λk v hv=>?_,h.pos⟩
 ·£⟨q,hq,hf⟩:=List.mem_flatMap.mp hf;§h.st q (Nat.zero_le _) (List.mem_range.mp hq) f hf c hc
 ·£⟨f,hf,e,r⟩:=h.due k v hv;§⟨f,List.mem_flatMap.mpr ⟨k.1,List.mem_range.mpr (h.at' k v hv).2,hf⟩,e,r⟩
def gp (H0 H:Hp) (pl:Addr) (pa:List Addr) (kinds:List Str) (rs:List Rl) (ws:List V) (p:Nat) (g:Ky→Option Int):Prop:=pa.length=ws.length - p∧∀q,p≤q→q < ws.length→∃a bs,pa[ws.length - 1 - q]?=some a∧¬(H0 a≠none∨a=pl)∧H a=some (.lst (bs.map V.ref))∧cb H (λx=>H0 x≠none∨x=pl) bs (dn (cv kinds) (bp kinds rs ws q) q g)
theorem gp.kx {H0 H H':Hp} {pl:Addr} {pa:List Addr} {kinds:List Str} {rs:List Rl} {ws:List V} {p:Nat} {g:Ky→Option Int} (h:gp H0 H pl pa kinds rs ws p g) (x:Kx (λx=>H0 x≠none∨x=pl) H H'):gp H0 H' pl pa kinds rs ws p g:=⟨h.1,λq h1 h2=>by
 £⟨a,bs,g1,g2,g3,g4⟩:=h.2 q h1 h2;§⟨a,bs,g1,g2,x.l g2 g3,g4.kx x⟩⟩
theorem gp.snoc {H0 H:Hp} {pl:Addr} {pa:List Addr} {kinds:List Str} {rs:List Rl} {ws:List V} {p:Nat} {g g':Ky→Option Int} (bk:Bk kinds rs) (h:gp H0 H pl pa kinds rs ws (p+1) g) (hp:p < ws.length) (far:∀k,k.1≠p→g' k=g k) {a:Addr} {bs:List Addr} (ha:¬(H0 a≠none∨a=pl)) (h1:H a=some (.lst (bs.map V.ref))) (h2:cb H (λx=>H0 x≠none∨x=pl) bs (dn (cv kinds) (bp kinds rs ws p) p g')):gp H0 H pl (pa++[a]) kinds rs ws p g':=by
 ¤hl:=h.1;¶⟨by rw[List.length_append,List.length_singleton,hl];¡,λq h3 h4=>?_⟩;¦e:q=p
 ·subst e;§⟨a,bs,by rw[List.getElem?_append_right ¥,hl,show ws.length - 1 - q - (ws.length - (q+1))=0 by ¡];rfl,ha,h1,h2⟩
 ·£⟨a',bs',g1,g2,g3,g4⟩:=h.2 q ¥ h4;¶⟨a',bs',by rw[List.getElem?_append_left ¥];§g1,g2,g3,?_⟩;rw[Kb bk (show p < q by ¡) far];§g4
theorem xf (ks:List Str) (fs:List Fr) (p:Nat) (g:Ky→Option Int):(dn ks fs p g).length≤ks.length:=List.length_filterMap_le _ _
noncomputable def jl (kinds:List Str) (rs:List Rl) (ws:List V) (g:Ky→Option Int) (i:Nat):List Rw:=(List.range i).flatMap λp=>dn (cv kinds) (bp kinds rs ws p) p g
theorem iw (kinds:List Str) (rs:List Rl) (ws:List V) (g:Ky→Option Int) (i:Nat):jl kinds rs ws g (i+1)=jl kinds rs ws g i++dn (cv kinds) (bp kinds rs ws i) i g:=by
 unfold jl;rw[List.range_succ,List.flatMap_append];simp
theorem m4 (kinds:List Str) (rs:List Rl) (ws:List V) (g:Ky→Option Int) (hk:kinds.length≤60):∀i,(jl kinds rs ws g i).length≤60*i
 | 0=>Nat.le_refl _
 | i+1=>by
  rw[iw,List.length_append];¤h1:=m4 kinds rs ws g hk i;¤h2:=xf (cv kinds) (bp kinds rs ws i) i g;rw[qh] at h2;¡
end Pc
namespace Pc
open PySem PySem.Spec L2 PyProof.Rows Fm
theorem Dn {kinds:List Str} {rs:List Rl} {ws:List V} {g:Ky→Option Int} (T:Tbl (m8 kinds rs ws) g) {r:Rw} (h:r∈rowsOf kinds rs ws g):∃nm,r.names.head?=some nm:=by
 £⟨p,hp,h⟩:=List.mem_flatMap.mp h;£⟨k,hk,e⟩:=List.mem_filterMap.mp h;£⟨v,hv,rfl⟩:=Option.map_eq_some_iff.mp e;£⟨f,hf,e1,hc⟩:=T.exact hv;£⟨p',_,hf⟩:=List.mem_flatMap.mp hf;£⟨f',hf',rfl⟩:=List.mem_map.mp hf;¤e1:(p',f'.kind)=(p,k):=e1;£⟨rfl,rfl⟩:=Prod.mk.inj e1;¤hm:f'.name∈namesW (bp kinds rs ws p') g f'.kind v:=List.mem_map.mpr ⟨f',List.mem_filter.mpr ⟨hf',decide_eq_true ⟨rfl,hc⟩⟩,rfl⟩;show ∃nm,(namesW (bp kinds rs ws p') g f'.kind v).head?=some nm
 cases e:namesW (bp kinds rs ws p') g f'.kind v with
 | nil=>rw[e] at hm;cases hm
 | cons x xs=>§⟨x,rfl⟩
structure Tr where
 place:Int
 kind:Str
 price:Int
 name:Str
def xk (H:Hp) (ts:List Addr) (tab:List Tr):Prop:=ts.length=tab.length∧∀(j:Nat) (t:Tr),tab[j]?=some t→∃a,ts[j]?=some a∧H a=some (.tup [.int t.place,.str t.kind,.int t.price,.str t.name])
theorem xk.same {H H':Hp} {ts:List Addr} {tab:List Tr} (h:xk H ts tab) (s:ak H H'):xk H' ts tab:=⟨h.1,λj r e=>by
 £⟨a,h1,h2⟩:=h.2 j r e;§⟨a,h1,s _ _ h2⟩⟩
def trOk (t:Tr) (r:Rw):Prop:=t.place=(r.place:Int)∧t.kind=r.kind∧t.price=r.price∧t.name∈r.names
def yf (tab:List Tr) (rows:List Rw):Prop:=tab.length=rows.length∧∀(j:Nat) (t:Tr) (r:Rw),tab[j]?=some t→rows[j]?=some r→trOk t r
def sj:Sp:=λvs H Q _=>∃(b wt tl:Addr) (kinds:List Str) (rs:List Rl) (ws:List V) (ts:List Addr) (tab:List Tr),vs=[.ref b,.ref wt,.ref tl]∧cy H b kinds rs∧H wt=some (.tup ws)∧Bk kinds rs∧Tw ws∧H tl=some (.lst (ts.map V.ref))∧xk H ts tab∧tab.length≤100000∧∀(H':Hp) (g:Ky→Option Int) (c:Bool),ak H H'→Tbl (m8 kinds rs ws) g→(c=true↔yf tab (rowsOf kinds rs ws g))→Q (.bl c) H'
end Pc
namespace Pc
open PySem PySem.Spec L2 PyProof.Rows Fm
theorem cb.get {no:Addr→Prop} {H:Hp} {as:List Addr} {rows:List Rw} (h:cb H no as rows) {i:Nat} {t:Addr} (ht:as[i]?=some t):∃r nl,rows[i]?=some r∧H t=some (.tup [.int (r.place:Int),.str r.kind,.int r.price,.ref nl])∧H nl=some (.lst (r.names.map V.str)):=by
 ¤hi:i < rows.length:=by rw[←h.1];§(List.getElem?_eq_some_iff.mp ht).1
 £⟨a,h1,nl,_,h3,h4⟩:=h.2 i _ (List.getElem?_eq_getElem hi);£rfl:a=t:=Option.some.inj (h1.symm.trans ht);§⟨_,nl,List.getElem?_eq_getElem hi,h3,h4⟩
theorem Ex {kinds:List Str} {rs:List Rl} {ws:List V} {g:Ky→Option Int} (bk:Bk kinds rs) (tw:Tw ws):(rowsOf kinds rs ws g).length≤60000:=by
 ¤h1:=m4 kinds rs ws g bk.kl ws.length;¤h2:=tw.len;¤h1:(rowsOf kinds rs ws g).length≤60*ws.length:=h1;¡
theorem cut3 (a b c d:V):cn [a,b,c,d] none (some 3)=[a,b,c]:=kh [a,b,c,d] 3 (by show (3:Nat)≤4;decide)
theorem cut2 (a b c d:V):cn [a,b,c,d] none (some 2)=[a,b]:=kh [a,b,c,d] 2 (by show (2:Nat)≤4;decide)
end Pc
namespace Pc
open PySem PySem.Spec L2 PyProof.Rows Fm
noncomputable def ee (r:Rw):Ky:=(r.place,r.kind)
theorem j4 (fs:List Fr) (p:Nat) (g:Ky→Option Int):∀ks:List Str,(dn ks fs p g).map ee=(ks.filter λk=>(g (p,k)).isSome).map λk=>(p,k)
 | []=>rfl
 | k::ks=>by
  ¤ih:=j4 fs p g ks;unfold dn at ih ⊢;rw[List.filterMap_cons,List.filter_cons];cases e:g (p,k) with
  | none=>simpa using ih
  | some v=>
   show ee ⟨p,k,v,_⟩::_=_
   rw[if_pos (by rfl),List.map_cons];congr 1
theorem El {kinds:List Str} (h:kinds.Nodup):(cv kinds).Nodup:=(gz kinds).nodup_iff.mpr h
theorem ly {α β:Type} {f:α→β} (hf:∀a b,f a=f b→a=b):∀{l:List α},l.Nodup→(l.map f).Nodup
 | [],_=>List.nodup_nil
 | a::l,h=>by
  £⟨h1,h2⟩:=List.nodup_cons.mp h;rw[List.map_cons];¶List.nodup_cons.mpr ⟨λm=>?_,ly hf h2⟩;£⟨b,hb,e⟩:=List.mem_map.mp m;§h1 (hf _ _ e ▸ hb)
theorem qb {kinds:List Str} (hk:kinds.Nodup) (rs:List Rl) (ws:List V) (g:Ky→Option Int):∀i,((jl kinds rs ws g i).map ee).Nodup∧∀k∈(jl kinds rs ws g i).map ee,k.1 < i
 | 0=>⟨List.nodup_nil,λk h=>nomatch h⟩
 | i+1=>by
  £⟨h1,h2⟩:=qb hk rs ws g i;rw[iw,List.map_append,j4];¤one:∀k∈((cv kinds).filter λk=>(g (i,k)).isSome).map (λk=>(i,k)),k.1=i:=λk hk=>by
   £⟨z,_,rfl⟩:=List.mem_map.mp hk;rfl
  ¶⟨List.nodup_append.mpr ⟨h1,ly (λa b e=>(Prod.mk.inj e).2) ((El hk).sublist List.filter_sublist),λa ha b hb e=>?_⟩,λk hk=>?_⟩
  ·have:=h2 a ha;have:=one b hb;rw[e] at*;¡
  ·rcases List.mem_append.mp hk with m | m
   ·have:=h2 k m;¡
   ·have:=one k m;¡
theorem vb {kinds:List Str} {rs:List Rl} {ws:List V} {g:Ky→Option Int} {r:Rw} (h:r∈rowsOf kinds rs ws g):r.place < ws.length∧g (r.place,r.kind)=some r.price∧r.names=namesW (bp kinds rs ws r.place) g r.kind r.price:=by
 £⟨p,hp,h⟩:=List.mem_flatMap.mp h;£⟨k,hk,e⟩:=List.mem_filterMap.mp h;£⟨v,hv,rfl⟩:=Option.map_eq_some_iff.mp e;§⟨List.mem_range.mp hp,hv,rfl⟩
theorem Cc {kinds:List Str} {rs:List Rl} {ws:List V} {g:Ky→Option Int} (bk:Bk kinds rs) (T:Tbl (m8 kinds rs ws) g) {k:Ky} {v:Int} (h:g k=some v):∃r∈rowsOf kinds rs ws g,r.place=k.1∧r.kind=k.2∧r.price=v:=by
 £⟨f,hf,e,_⟩:=T.exact h;£⟨p,hp,hf⟩:=List.mem_flatMap.mp hf;£⟨f',hf',rfl⟩:=List.mem_map.mp hf;¤e:(p,f'.kind)=k:=e;subst e;¶⟨⟨p,f'.kind,v,namesW (bp kinds rs ws p) g f'.kind v⟩,List.mem_flatMap.mpr ⟨p,hp,List.mem_filterMap.mpr ⟨f'.kind,Iq.mpr (kz bk hf').2.1,?_⟩⟩,rfl,rfl,rfl⟩;rw[h];rfl
theorem yv:∀(ps acc:List (List Key×V)),((acc++ps).map (·.1)).Nodup→ko ps acc=acc++ps
 | [],acc,_=>(List.append_nil _).symm
 | p::ps,acc,h=>by
  ¤hn:dh acc p.1=none:=by
   cases e:dh acc p.1 with
   | none=>rfl
   | some v=>
    ¤hm:=Pf e;rw[List.map_append] at h;§absurd rfl ((List.nodup_append.mp h).2.2 _ hm _ (List.mem_map.mpr ⟨p,List.mem_cons_self,rfl⟩))
  show ko ps (putK acc p.1 p.2)=_
  rw[Cm p.2 hn,yv ps _ (by rw[List.append_assoc];§h),List.append_assoc];rfl
theorem Fq {κ:Type} [DecidableEq κ]:∀{ps:List (κ×V)} {k:κ} {v:V},(ps.map (·.1)).Nodup→(k,v)∈ps→dh ps k=some v
 | [],_,_,_,h=>nomatch h
 | p::ps,k,v,nd,h=>by
  ¤nd:(p.1::ps.map (·.1)).Nodup:=nd;£⟨n1,n2⟩:=List.nodup_cons.mp nd;rcases List.mem_cons.mp h with e | h
  ·rw[bx (by rw[←e]),←e]
  ·¤ne:¬p.1=k:=λe=>n1 (e ▸ List.mem_map.mpr ⟨_,h,rfl⟩);rw[bz ne];§Fq n2 h
theorem Ks {kinds:List Str} {rs:List Rl} {ws:List V} (bk:Bk kinds rs):∀f∈m8 kinds rs ws,1≤f.own:=λf hf=>by
 £⟨p,_,hf⟩:=List.mem_flatMap.mp hf;£⟨f',hf',rfl⟩:=List.mem_map.mp hf;§(kz bk hf').1
def nz (K:PySem.W.Frag):Sp:=λvs H Q _=>∃(kt st:Addr) (kinds:List Str) (sh:List V),vs=[.ref kt,.ref st]∧SqT K H kt (kinds.map V.str)∧SqT K H st sh∧(∀v∈sh,isW v)∧sh.length≤1000∧∀(l:Addr) (H':Hp),ak H H'→H l=none→H' l=some (.lst ((ba kinds sh).map V.str))→Q (.ref l) H'
end Pc
namespace Pc
open PySem PySem.Spec L2 PyProof.Rows Fm
end Pc
namespace L2
theorem ob2 {α0 α1:Type} {p:α0→α1→Prop} {g:Prop} (h:∃a0 a1,p a0 a1) (k:∀a0 a1,p a0 a1→g):g:=by
 £⟨a0,a1,h⟩:=h;§k a0 a1 h
theorem ob3 {α0 α1 α2:Type} {p:α0→α1→α2→Prop} {g:Prop} (h:∃a0 a1 a2,p a0 a1 a2) (k:∀a0 a1 a2,p a0 a1 a2→g):g:=by
 £⟨a0,a1,a2,h⟩:=h;§k a0 a1 a2 h
theorem ob4 {α0 α1 α2 α3:Type} {p:α0→α1→α2→α3→Prop} {g:Prop} (h:∃a0 a1 a2 a3,p a0 a1 a2 a3) (k:∀a0 a1 a2 a3,p a0 a1 a2 a3→g):g:=by
 £⟨a0,a1,a2,a3,h⟩:=h;§k a0 a1 a2 a3 h
theorem ob5 {α0 α1 α2 α3 α4:Type} {p:α0→α1→α2→α3→α4→Prop} {g:Prop} (h:∃a0 a1 a2 a3 a4,p a0 a1 a2 a3 a4) (k:∀a0 a1 a2 a3 a4,p a0 a1 a2 a3 a4→g):g:=by
 £⟨a0,a1,a2,a3,a4,h⟩:=h;§k a0 a1 a2 a3 a4 h
theorem ob6 {α0 α1 α2 α3 α4 α5:Type} {p:α0→α1→α2→α3→α4→α5→Prop} {g:Prop} (h:∃a0 a1 a2 a3 a4 a5,p a0 a1 a2 a3 a4 a5) (k:∀a0 a1 a2 a3 a4 a5,p a0 a1 a2 a3 a4 a5→g):g:=by
 £⟨a0,a1,a2,a3,a4,a5,h⟩:=h;§k a0 a1 a2 a3 a4 a5 h
theorem ob7 {α0 α1 α2 α3 α4 α5 α6:Type} {p:α0→α1→α2→α3→α4→α5→α6→Prop} {g:Prop} (h:∃a0 a1 a2 a3 a4 a5 a6,p a0 a1 a2 a3 a4 a5 a6) (k:∀a0 a1 a2 a3 a4 a5 a6,p a0 a1 a2 a3 a4 a5 a6→g):g:=by
 £⟨a0,a1,a2,a3,a4,a5,a6,h⟩:=h;§k a0 a1 a2 a3 a4 a5 a6 h
theorem ob8 {α0 α1 α2 α3 α4 α5 α6 α7:Type} {p:α0→α1→α2→α3→α4→α5→α6→α7→Prop} {g:Prop} (h:∃a0 a1 a2 a3 a4 a5 a6 a7,p a0 a1 a2 a3 a4 a5 a6 a7) (k:∀a0 a1 a2 a3 a4 a5 a6 a7,p a0 a1 a2 a3 a4 a5 a6 a7→g):g:=by
 £⟨a0,a1,a2,a3,a4,a5,a6,a7,h⟩:=h;§k a0 a1 a2 a3 a4 a5 a6 a7 h
theorem ob10 {α0 α1 α2 α3 α4 α5 α6 α7 α8 α9:Type} {p:α0→α1→α2→α3→α4→α5→α6→α7→α8→α9→Prop} {g:Prop} (h:∃a0 a1 a2 a3 a4 a5 a6 a7 a8 a9,p a0 a1 a2 a3 a4 a5 a6 a7 a8 a9) (k:∀a0 a1 a2 a3 a4 a5 a6 a7 a8 a9,p a0 a1 a2 a3 a4 a5 a6 a7 a8 a9→g):g:=by
 £⟨a0,a1,a2,a3,a4,a5,a6,a7,a8,a9,h⟩:=h;§k a0 a1 a2 a3 a4 a5 a6 a7 a8 a9 h
open PySem PySem.Spec PyProof.Rows
theorem Bn {K:PySem.W.Frag} {n:Nat} {a:Addr} {x0 x1:V} {i0 i1:Nat} {σ:L2.St} {H:Hp} {Q:L2.St→Hp→Prop} (h:H a=some (.tup [x0,x1])) (hn:2=n) (q:Q ((σ.set i0 (some x0)).set i1 (some x1)) H):Ew K n (fq (cj i0) (fq (cj i1) gNil)) (.ref a) σ H Q:=⟨a,_,rfl,SqT.of h,hn,_,_,rfl,_,_,rfl,rfl,q⟩
theorem Ck {K:PySem.W.Frag} {n:Nat} {a:Addr} {x0 x1 x2 x3:V} {i0 i1 i2 i3:Nat} {σ:L2.St} {H:Hp} {Q:L2.St→Hp→Prop} (h:H a=some (.tup [x0,x1,x2,x3])) (hn:4=n) (q:Q ((((σ.set i0 (some x0)).set i1 (some x1)).set i2 (some x2)).set i3 (some x3)) H):Ew K n (fq (cj i0) (fq (cj i1) (fq (cj i2) (fq (cj i3) gNil)))) (.ref a) σ H Q:=⟨a,_,rfl,SqT.of h,hn,_,_,rfl,_,_,rfl,_,_,rfl,_,_,rfl,rfl,q⟩
theorem Mj {K:PySem.W.Frag} {n:Nat} {a:Addr} {x0 x1 x2 x3 x4:V} {i0 i1 i2 i3 i4:Nat} {σ:L2.St} {H:Hp} {Q:L2.St→Hp→Prop} (h:H a=some (.tup [x0,x1,x2,x3,x4])) (hn:5=n) (q:Q (((((σ.set i0 (some x0)).set i1 (some x1)).set i2 (some x2)).set i3 (some x3)).set i4 (some x4)) H):Ew K n (fq (cj i0) (fq (cj i1) (fq (cj i2) (fq (cj i3) (fq (cj i4) gNil))))) (.ref a) σ H Q:=⟨a,_,rfl,SqT.of h,hn,_,_,rfl,_,_,rfl,_,_,rfl,_,_,rfl,_,_,rfl,rfl,q⟩
end L2
namespace Pc
open PySem PySem.Spec L2 PyProof.Rows Fm
theorem Qs {K:PySem.W.Frag} {v:V} {kt:Addr} {kinds:List Str} {H:Hp} {Q:VK} {E:XK} (p0:isW v) (p1:SqT K H kt (kinds.map V.str)) (p2:Q (.str (cm kinds v)) H):(jk K) [v,.ref kt] H Q E:=⟨v,kt,kinds,rfl,p0,p1,p2⟩
theorem mkLies {l:Str} {v x:V} {H:Hp} {Q:VK} {E:XK} (p0:isW v) (p1:isW x) (p2:Q (.bl (lies l v x)) H):zw [.str l,v,x] H Q E:=⟨l,v,x,rfl,p0,p1,p2⟩
theorem mkLaid {K:PySem.W.Frag} {st kt wt:Addr} {sh:List V} {kinds:List Str} {ws:List V} {p n:Nat} {H:Hp} {Q:VK} {E:XK} (p0:SqT K H st sh) (p1:SqT K H kt (kinds.map V.str)) (p2:SqT K H wt ws) (p3:Kinds kinds) (p4:(∀v∈sh,isW v)) (p5:(∀v∈ws,isW v)) (p6:isTerm sh) (p7:eat 1 ((ws.drop p).map arV)=some n) (p8:sh.length≤1000) (p9:ws.length≤1000) (p10:∀H',ak H H'→told (dy kinds ws sh p ⟨[],[],[]⟩) H' Q):(Ai K) [.ref st,.ref kt,.ref wt,.int (p:Int)] H Q E:=⟨st,kt,wt,sh,kinds,ws,p,n,rfl,p0,p1,p2,p3,p4,p5,p6,p7,p8,p9,p10⟩
theorem mkEnds {K:PySem.W.Frag} {t:Addr} {ws:List V} {H:Hp} {Q:VK} {E:XK} (p0:SqT K H t ws) (p1:(∀v∈ws,isW v)) (p2:isTerm ws) (p3:ws.length≤1000) (p4:∀(l:Addr) (H':Hp),ak H H'→H l=none→H' l=some (.lst ((List.range ws.length).map λq=>plV (endAt ws q)))→Q (.ref l) H'):(ze K) [.ref t] H Q E:=⟨t,ws,rfl,p0,p1,p2,p3,p4⟩
theorem Ow {K:PySem.W.Frag} {st kt wt et:Addr} {sh:List V} {kinds:List Str} {ws:List V} {p:Nat} {H:Hp} {Q:VK} {E:XK} (p0:SqT K H st sh) (p1:SqT K H kt (kinds.map V.str)) (p2:SqT K H wt ws) (p3:H et=some (.lst ((List.range ws.length).map λq=>plV (endAt ws q)))) (p4:Kinds kinds) (p5:(∀v∈sh,isW v)) (p6:isTerm sh) (p7:sh.length≤1000) (p8:Tw ws) (p9:p < ws.length) (p10:∀H',ak H H'→told (dy kinds ws sh p ⟨[],[],[]⟩) H' Q):(ub K) [.ref kt,.ref st,.ref wt,.ref et,.int (p:Int)] H Q E:=⟨st,kt,wt,et,sh,kinds,ws,p,rfl,p0,p1,p2,p3,p4,p5,p6,p7,p8,p9,p10⟩
theorem Qk {d nl b:Addr} {ns:List Int} {zs:List Str} {m n:Nat} {H:Hp} {Q:VK} {E:XK} (p0:cu H d b ns n) (p1:cg H nl zs) (p2:1≤m) (p3:m≤120) (p4:n≤50000) (p5:∀(t:Addr) (n':Nat) (H':Hp) (ws:List V),aq d H H'→H' d=some (.lst [.ref b,.int (n':Int)])→n'≤n+m→H t=none→H' t=some (.tup ws)→Tw ws→ws.length≤m→Q (.ref t) H'):sk [.ref d,.ref nl,.int (m:Int)] H Q E:=⟨d,nl,b,ns,zs,m,n,rfl,p0,p1,p2,p3,p4,p5⟩
theorem Pn {d kt b:Addr} {ns:List Int} {kinds:List Str} {n:Nat} {H:Hp} {Q:VK} {E:XK} (p0:cu H d b ns n) (p1:H kt=some (.tup (kinds.map V.str))) (p2:Kinds kinds) (p3:1≤kinds.length) (p4:kinds.length≤20) (p5:n≤50000) (p6:∀(t:Addr) (n':Nat) (H':Hp) (sh:List V),aq d H H'→H' d=some (.lst [.ref b,.int (n':Int)])→n'≤n+12→H t=none→H' t=some (.tup sh)→jy kinds sh→Q (.ref t) H'):tf [.ref d,.ref kt] H Q E:=⟨d,kt,b,ns,kinds,n,rfl,p0,p1,p2,p3,p4,p5,p6⟩
theorem Qg {K:PySem.W.Frag} {kt st:Addr} {kinds:List Str} {sh:List V} {H:Hp} {Q:VK} {E:XK} (p0:H kt=some (.tup (kinds.map V.str))) (p1:H st=some (.tup sh)) (p2:Kinds kinds) (p3:jy kinds sh) (p4:∀(t:Addr) (ds:List V) (H':Hp),ak H H'→H' t=some (.tup ds)→Q (.ref t) H'):(tj K) [.ref kt,.ref st] H Q E:=⟨kt,st,kinds,sh,rfl,p0,p1,p2,p3,p4⟩
theorem mkBook {d nl b:Addr} {ns:List Int} {zs:List Str} {n:Nat} {H:Hp} {Q:VK} {E:XK} (p0:cu H d b ns n) (p1:cg H nl zs) (p2:n≤1000) (p3:∀(bt:Addr) (n':Nat) (H':Hp) (kinds:List Str) (rs:List Rl),aq d H H'→H' d=some (.lst [.ref b,.int (n':Int)])→n'≤n+1000→cy H' bt kinds rs→Bk kinds rs→1≤rs.length→Q (.ref bt) H'):y4 [.ref d,.ref nl] H Q E:=⟨d,nl,b,ns,zs,n,rfl,p0,p1,p2,p3⟩
theorem Mn {d b:Addr} {ns:List Int} {n:Nat} {H:Hp} {Q:VK} {E:XK} (p0:cu H d b ns n) (p1:n≤1000) (p2:∀(l:Addr) (H':Hp) (zs:List Str),aq d H H'→H' d=some (.lst [.ref b,.int ((n+1:Nat):Int)])→cg H' l zs→Q (.ref l) H'):oo [.ref d] H Q E:=⟨d,b,ns,n,rfl,p0,p1,p2⟩
theorem Ka {K:PySem.W.Frag} {st kt ut:Addr} {sh:List V} {kinds:List Str} {u:Und} {H:Hp} {Q:VK} {E:XK} (p0:SqT K H st sh) (p1:SqT K H kt (kinds.map V.str)) (p2:Kd H ut u) (p3:Kinds kinds) (p4:(∀v∈sh,isW v)) (p5:sh.length≤1000) (p6:u.hs.length=(ba kinds sh).length) (p7:∀(l:Addr) (H':Hp),ak H H'→H l=none→mr H' l (u.hs.zip (ba kinds sh))→Q (.ref l) H'):(ou K) [.ref st,.ref kt,.ref ut] H Q E:=⟨st,kt,ut,sh,kinds,u,rfl,p0,p1,p2,p3,p4,p5,p6,p7⟩
theorem Ja {b wt:Addr} {kinds:List Str} {rs:List Rl} {ws:List V} {p:Nat} {H:Hp} {Q:VK} {E:XK} (p0:cy H b kinds rs) (p1:H wt=some (.tup ws)) (p2:Bk kinds rs) (p3:Tw ws) (p4:p < ws.length) (p5:∀(l:Addr) (as:List Addr) (H':Hp),ak H H'→H l=none→H' l=some (.lst (as.map V.ref))→dj H' (λx=>H x≠none) as (bp kinds rs ws p)→Q (.ref l) H'):kq [.ref b,.ref wt,.int (p:Int)] H Q E:=⟨b,wt,kinds,rs,ws,p,rfl,p0,p1,p2,p3,p4,p5⟩
theorem Pd {own:Int} {hl d:Addr} {hs:List Ky} {g:Ky→Option Int} {n:Nat} {H:Hp} {Q:VK} {E:XK} (p0:mr H hl hs) (p1:dc H d g n) (p2:Q (match cost g own hs with | none=>.non | some c=>.int c) H):jm [.int own,.ref hl,.ref d] H Q E:=⟨own,hl,d,hs,g,n,rfl,p0,p1,p2⟩
theorem M5 {p:Nat} {fl d:Addr} {as:List Addr} {fs:List Fr} {g:Ky→Option Int} {n:Nat} {H:Hp} {Q:VK} {E:XK} (p0:H fl=some (.lst (as.map V.ref))) (p1:dj H (λ_=>False) as fs) (p2:dc H d g n) (p3:n+fs.length≤1000000) (p4:(∀f∈fs,1≤f.own)) (p5:(∀k v,g k=some v→1≤v)) (p6:(∀k,k.1=p→g k=none)) (p7:∀(H':Hp) (g':Ky→Option Int),aq d H H'→dc H' d g' (n+fs.length)→jh (fs.map (fm p)) g'→(∀k,k.1≠p→g' k=g k)→(∀k v,k.1=p→g' k=some v→∃f∈fs.map (fm p),f.key=k∧∃c,cost g' f.own f.hs=some c∧c≤v)→(∀k v,g' k=some v→1≤v)→Q .non H'):pb [.int (p:Int),.ref fl,.ref d] H Q E:=⟨p,fl,d,as,fs,g,n,rfl,p0,p1,p2,p3,p4,p5,p6,p7⟩
theorem mkWith {k:Str} {v:Int} {fl d:Addr} {as:List Addr} {fs:List Fr} {g:Ky→Option Int} {n:Nat} {H:Hp} {Q:VK} {E:XK} (p0:H fl=some (.lst (as.map V.ref))) (p1:dj H (λ_=>False) as fs) (p2:fs.length≤1000) (p3:dc H d g n) (p4:∀(l:Addr) (H':Hp),ak H H'→H l=none→H' l=some (.lst ((namesW fs g k v).map V.str))→Q (.ref l) H'):zj [.str k,.int v,.ref fl,.ref d] H Q E:=⟨k,v,fl,d,as,fs,g,n,rfl,p0,p1,p2,p3,p4⟩
theorem N4 {b fl d:Addr} {p:Nat} {kinds:List Str} {rs:List Rl} {as:List Addr} {fs:List Fr} {g:Ky→Option Int} {n:Nat} {H:Hp} {Q:VK} {E:XK} (p0:cy H b kinds rs) (p1:kinds.length≤60) (p2:H fl=some (.lst (as.map V.ref))) (p3:dj H (λ_=>False) as fs) (p4:fs.length≤1000) (p5:dc H d g n) (p6:∀(l:Addr) (bs:List Addr) (H':Hp),ak H H'→H l=none→H' l=some (.lst (bs.map V.ref))→cb H' (λx=>H x≠none) bs (dn (cv kinds) fs p g)→Q (.ref l) H'):uh [.ref b,.int (p:Int),.ref fl,.ref d] H Q E:=⟨b,fl,d,p,kinds,rs,as,fs,g,n,rfl,p0,p1,p2,p3,p4,p5,p6⟩
theorem Ou {b wt:Addr} {kinds:List Str} {rs:List Rl} {ws:List V} {H:Hp} {Q:VK} {E:XK} (p0:cy H b kinds rs) (p1:H wt=some (.tup ws)) (p2:Bk kinds rs) (p3:Tw ws) (p4:∀(l:Addr) (bs:List Addr) (H':Hp) (g:Ky→Option Int),ak H H'→H l=none→H' l=some (.lst (bs.map V.ref))→Tbl (m8 kinds rs ws) g→cb H' (λx=>H x≠none) bs (rowsOf kinds rs ws g)→Q (.ref l) H'):uc [.ref b,.ref wt] H Q E:=⟨b,wt,kinds,rs,ws,rfl,p0,p1,p2,p3,p4⟩
theorem Pr {b wt tl:Addr} {kinds:List Str} {rs:List Rl} {ws:List V} {ts:List Addr} {tab:List Tr} {H:Hp} {Q:VK} {E:XK} (p0:cy H b kinds rs) (p1:H wt=some (.tup ws)) (p2:Bk kinds rs) (p3:Tw ws) (p4:H tl=some (.lst (ts.map V.ref))) (p5:xk H ts tab) (p6:tab.length≤100000) (p7:∀(H':Hp) (g:Ky→Option Int) (c:Bool),ak H H'→Tbl (m8 kinds rs ws) g→(c=true↔yf tab (rowsOf kinds rs ws g))→Q (.bl c) H'):sj [.ref b,.ref wt,.ref tl] H Q E:=⟨b,wt,tl,kinds,rs,ws,ts,tab,rfl,p0,p1,p2,p3,p4,p5,p6,p7⟩
theorem J8 {K:PySem.W.Frag} {kt st:Addr} {kinds:List Str} {sh:List V} {H:Hp} {Q:VK} {E:XK} (p0:SqT K H kt (kinds.map V.str)) (p1:SqT K H st sh) (p2:(∀v∈sh,isW v)) (p3:sh.length≤1000) (p4:∀(l:Addr) (H':Hp),ak H H'→H l=none→H' l=some (.lst ((ba kinds sh).map V.str))→Q (.ref l) H'):(nz K) [.ref kt,.ref st] H Q E:=⟨kt,st,kinds,sh,rfl,p0,p1,p2,p3,p4⟩
theorem nh {d b:Addr} {ns:List Int} {n:Nat} {H:Hp} {Q:VK} {E:XK} (p0:cu H d b ns n) (p1:n≤100000) (p2:∀(c:Int) (H':Hp),aq d H H'→H' d=some (.lst [.ref b,.int ((n+1:Nat):Int)])→Q (.int c) H'):gn [.ref d] H Q E:=⟨d,b,ns,n,rfl,p0,p1,p2⟩
end Pc
namespace L2.Itm
open PySem PySem.Spec PyProof.Rows
section
variable {prog:Program} {w:World} {A:Around} {E:Value→Shared→Prop} {s:Shared} {d:Addr} {es:Array DictEntry} {ep:Nat} {o:Obj}
theorem x5 {Q:Value→Shared→Prop} (hd:(d==sysModules)=false) (r:Raw s.heap d es ep o) (q:Q (.ref s.heap.objs.size) { s with heap:=s.heap.push { cls:=.type "dict_keyiterator",data:=.fields #[.ref d,.int 0 0,.int es.size 0,.int ep 0] } }):
  wpAny (model prog w) A (pyIter (.ref d)) Q E s:=by
 ¶wpAny_pyIter_slot r.typeIs PySem.F.slot_dict_iter (wpAny_call_entry PySem.F.slot_dict_iter r.typeIs PySem.F.entry_dict_iter ?_ (PySem.F.args_dict_iter_1 _));unfold Builtin.«dict.__iter__»;¶wpAny_bind ?_;unfold Builtin.Dict.dictSlotNone;¶wpAny_bind (wpAny_notOrdered_dict r.typeIs (?_:wpAny _ _ (pure (Value.ref d)) _ _ s));¶wpAny_pure (?_:wpAny _ _ (Builtin.Dict.showsAll d >>=_) _ _ s);unfold Builtin.Dict.showsAll;rw[if_neg (show ¬(d==sysModules)=true by rw[hd];decide)];¶wpAny_bind (wpAny_pure (wpAny_bind (wpAny_dictEntries r.there r.data (wpAny_bind (wpAny_dictEpoch r.there r.data ?_)))));¶wpAny_bind (wpAny_newObj_type (wpAny_pure ⟨_,rfl,"dict_keyiterator",_,⟨_,Heap.get?_push_size _ rfl,rfl⟩,PySem.F.slot_dict_keyiterator_next.lookup,?_⟩));simpa [rawInt] using q
theorem yw {it:Addr} {i:Nat} {e:DictEntry} {Q:Option Value→Shared→Prop} (hit:s.heap.IsKeyIter it d i es.size ep) (r:Raw s.heap d es ep o) (hx:es[i]?=some e)
  (q:∀h',h'.IsKeyIter it d (i+1) es.size ep→Heap.SameBut it s.heap h'→Q (some e.key) { s with heap:=h' }):wpAny (model prog w) A (pyNext (.ref it)) Q E s:=by
 £⟨oi,ho,hc,hf⟩:=id hit;¤hT:=hit.typeIs;¤own:Builtin.Dict_items.ownsTuple "dict_keyiterator"=false:=by decide
 unfold pyNext;¶wpAny_bind (wpAny_attempt (wpAny_callSpecial?_slot (name:=Str.ofString "__next__") hT PySem.F.slot_dict_keyiterator_next (wpAny_call_entry PySem.F.slot_dict_keyiterator_next hT PySem.F.entry_dict_keyiterator_next ?_ (PySem.F.args_dict_keyiterator_next_1 _))));¶wpAny_bind (wpAny_pure (wpAny_bind (wpAny_bind ?_)));¶wpAny_bind (wpAny_typeNameOfWhole_keyiter hT (wpAny_pure (wpAny_bind (wpAny_fieldsOf ho hf ?_))));simp only[own,Bool.false_eq_true,if_false];¶(show wpAny _ _ (if (Value.ref d==Value.none)=true then _ else _) _ _ s from ?_);rw[if_neg (show ¬(Value.ref d==Value.none)=true from λz=>by cases z)];¶wpAny_bind (wpAny_pure (wpAny_bind (wpAny_dictEntries r.there r.data ?_)));rw[if_neg (by simp)];¶wpAny_bind (wpAny_pure (wpAny_bind (wpAny_dictEpoch r.there r.data ?_)));rw[if_neg (by simp)];¶wpAny_pure ?_;simp only[show ¬((i:Int) < 0) by ¡,if_false,Int.toNat_natCast,hx];¶wpAny_bind ?_;¶wpAny_bind (wpAny_typeNameOfWhole_keyiter hT (wpAny_pure (wpAny_bind (wpAny_isOneOf_keyiter hT ?_))));¶(show wpAny _ _ (setField (.ref it) 1 (rawInt ((i:Int)+1)) >>=_) _ _ s from wpAny_bind (wpAny_setField ho hf (by simp) ?_));¤hit':(s.heap.update it (Obj.mapFields (·.setIfInBounds 1 (rawInt ((i:Int)+1))))).IsKeyIter it d (i+1) es.size ep:=
  ⟨_,Heap.get?_update_self _ ho (Obj.isFreed_of_fields (Obj.data_mapFields hf _)),(Obj.cls_mapFields ..).trans hc,by rw[Obj.data_mapFields hf];simp[rawInt]⟩
 ¶wpAny_bind (wpAny_holding (wpAny_bind (wpAny_isOneOf_keyiter (s:={ s with heap:=s.heap.update it (Obj.mapFields (·.setIfInBounds 1 (rawInt ((i:Int)+1)))) }) hit'.typeIs ?_)));§(show wpAny _ _ (pure e.key) _ _ _ from wpAny_pure (wpAny_pure ⟨_,rfl,wpAny_pure (q _ hit' (Heap.SameBut.update ..))⟩))
theorem Ca {it:Addr} {i:Nat} {Q:Option Value→Shared→Prop} (hh:A.handled=none) (hit:s.heap.IsKeyIter it d i es.size ep) (r:Raw s.heap d es ep o) (hx:es.size≤i)
  (q:∀h',Heap.ExtBut it s.heap h'→Q none { s with heap:=h' }):wpAny (model prog w) A (pyNext (.ref it)) Q E s:=by
 £⟨oi,ho,hc,hf⟩:=id hit;¤hT:=hit.typeIs;¤own:Builtin.Dict_items.ownsTuple "dict_keyiterator"=false:=by decide
 unfold pyNext;¶wpAny_bind (wpAny_attempt (wpAny_callSpecial?_slot (name:=Str.ofString "__next__") hT PySem.F.slot_dict_keyiterator_next (wpAny_call_entry PySem.F.slot_dict_keyiterator_next hT PySem.F.entry_dict_keyiterator_next ?_ (PySem.F.args_dict_keyiterator_next_1 _))));¶wpAny_bind (wpAny_pure (wpAny_bind (wpAny_bind ?_)));¶wpAny_bind (wpAny_typeNameOfWhole_keyiter hT (wpAny_pure (wpAny_bind (wpAny_fieldsOf ho hf ?_))));simp only[own,Bool.false_eq_true,if_false];¶(show wpAny _ _ (if (Value.ref d==Value.none)=true then _ else _) _ _ s from ?_);rw[if_neg (show ¬(Value.ref d==Value.none)=true from λz=>by cases z)];¶wpAny_bind (wpAny_pure (wpAny_bind (wpAny_dictEntries r.there r.data ?_)));rw[if_neg (by simp)];¶wpAny_bind (wpAny_pure (wpAny_bind (wpAny_dictEpoch r.there r.data ?_)));rw[if_neg (by simp)];¶wpAny_pure ?_;simp only[show ¬((i:Int) < 0) by ¡,if_false,Int.toNat_natCast,Array.getElem?_eq_none hx];¶wpAny_bind ?_;¶wpAny_bind (wpAny_typeNameOfWhole_keyiter hT (wpAny_pure ?_));¶(show wpAny _ _ (setField (.ref it) 0 .none >>=_) _ _ s from wpAny_bind (wpAny_setField ho hf (by simp) ?_));¶(show wpAny _ _ (newExc (.type "StopIteration") [] >>=_) _ _ _ from wpAny_bind ?_);simp only[newExc,newTuple];¶wpAny_bind (wpAny_newObj_type (wpAny_bind (m:=firstArgMember _ _) (wpAny_of_eq (a:=Value.none) (by first | rfl | (simp only[firstArgMember];rfl)) (wpAny_newObj_type ?_ (by size_fits)))) (by size_fits));simp only[raiseNew];¶wpAny_bind (wpAny_handled ?_);rw[show A.in1.handled=none from hh];¶wpAny_bind (wpAny_pure (wpAny_throw ?_));§wpAny_bind (wpAny_isInstance (T:="StopIteration") (b:=true) ⟨_,Heap.get?_push_size _ rfl,rfl⟩ isSubtype_stop (wpAny_pure (q _ (((Heap.SameBut.update ..).extBut.push _).push _))))
end
end L2.Itm
namespace L2
open PySem PySem.Spec PyProof.Rows Itm
noncomputable def Itq (a:Addr) (o:Obj) (kvs:List (List Key×V)):It:=
 ⟨λi H=>i < kvs.length∧H a=some (.frz o (.dT kvs)),λi H x H'=>H'=H∧∃t k v,kvs[i]?=some (k,v)∧H t=some (.tup (k.map kV))∧x=.ref t,λi H=>i=kvs.length∧H a=some (.frz o (.dT kvs))⟩
theorem Eo {P:Program} {w:World} {K:PySem.W.Frag} {tg:Expr} (a it:Addr) (o:Obj) (kvs:List (List Key×V)):Turn P w K tg (Itq a o kvs) [it] it (λi h=>∃es ep,o.data=.dict es ep∧h.IsKeyIter it a i es.size ep) where
 mem:=by simp
 obj:=λi h st b hb=>by
  ¤e:b=it:=by simpa using hb
  subst e;£⟨_,_,_,o',e',c',d'⟩:=st;§⟨o',e',λv z=>by rw[d'] at z;cases z⟩
 keep:=λi h h' st k=>by
  £⟨es,ep,hd,o',ho',r'⟩:=st;§⟨es,ep,hd,o',k it (by simp) o' ho',r'⟩
 item:=by
  ¿X hP hw hK hc i pins s σ H E I hf st hg;subst hP hw hK;£⟨hi,ha⟩:=hg;£⟨es,ep,hdat,raw,hsz,get⟩:=Aa I.hok ha;£⟨es',ep',hd',hit⟩:=st;rw[hdat] at hd';cases hd'
  ¤hkv:kvs[i]?=some (kvs[i].1,kvs[i].2):=List.getElem?_eq_getElem hi;£⟨t,u,j,he,ht,ru⟩:=get i _ _ hkv;£⟨f0,f1,f2,f3,f4,f5⟩:=hf it (by simp);¶yw hit raw he λh' st' sb=>?_;¤I1:Inv X pins σ H { s with heap:=h' }:=I.turned (t':=s.toks) (λb o' hb e'=>(sb.2 b hb).trans e') f0 f1 f3 f4 f5;£⟨o',e',c',d'⟩:=id st';§⟨_,rfl,xv (s:={ s with heap:=h' }) e' c' d' (by decide) ⟨.ref t,H,I1,rfl,⟨rfl,t,_,_,hkv,ht,rfl⟩,⟨es,ep,hdat,st'⟩,λb hb=>(hf b hb).1⟩⟩
 done:=by
  ¿X hP hw hK hc i pins s σ H E I hf st hg;subst hP hw hK;£⟨hi,ha⟩:=hg;£⟨es,ep,hdat,raw,hsz,get⟩:=Aa I.hok ha;£⟨es',ep',hd',hit⟩:=st;rw[hdat] at hd';cases hd'
  £⟨f0,f1,f2,f3,f4,f5⟩:=hf it (by simp);§Ca (I.ok.hd hc) hit raw ¥ λh' eb=>⟨rfl,I.turned (t':=s.toks) (λb o' hb e'=>eb b o' hb e') f0 f1 f3 f4 f5⟩
 self:=λ_ _ _ _ _ st h=>by
  £⟨_,_,_,hit⟩:=st;§wpAny_pyIter_keyiter hit h
def Lg (tl:TE):TI:=λσ H R=>tl σ H λx H1=>∃a kvs,x=.ref a∧H1 a=some (.dT kvs)∧∀o,R (Itq a o kvs) (upd H1 a (.frz o (.dT kvs)))
section
variable {X:Cx} {tg:Expr}
theorem Ml {l:Expr} {tl:TE} (hl:PE X l tl):PI X tg l (Lg tl):=by
 ¿pins s σ H R I h;¶thn (hl pins s σ H _ I h) λv s1 ⟨x,H1,I1,r1,a,kvs,e,ha,q⟩=>?_;subst e;cases (show v=Value.ref a from r1)
 £⟨o,es,ep,hdat,raw,I2⟩:=I1.Fx ha;¤hd:=(J4 I1.hok ha).2.1;¶x5 hd raw ?_;¶⟨s1.heap.objs.size,[s1.heap.objs.size],_,_,_,rfl,I2.kept (t':=s1.toks) λb o' e'=>Heap.get?_push_of_some _ e',Eo a _ o kvs,⟨es,ep,hdat,_,Heap.get?_push_size _ rfl,rfl,rfl⟩,λb hb=>?_,q o⟩;rw[List.mem_singleton.mp hb];§I2.xc (Nat.le_refl _) (I2.hok.fresh (Nat.le_refl _))
end
end L2
namespace gc
open PySem PyProof.Rows
class Rk where
 ρ:Value→Int
 P:Value→Prop
 kd:SortKind
variable [Rk]
noncomputable def K (xs:Array Keyed) (i:Nat):Int:=match xs[i]? with
 | some p=>Rk.ρ p.1
 | none=>0
def IntKeys (xs:Array Keyed):Prop:=∀p,p∈xs.toList→Rk.P p.1
def SortedTo (xs:Array Keyed) (k:Nat):Prop:=∀i j,i≤j→j < k→K xs i≤K xs j
class LtR (prog:Program) (w:World) (A:Around) (E:Value→Shared→Prop) (s:Shared):Prop where
 lt:∀(st:SortSt) (x y p q:Value) (Q:Option Bool→SortSt→Prop),Rk.P x→Rk.P y→kindOf st=Rk.kd→Q (some (decide (Rk.ρ x < Rk.ρ y))) st→wpS (model prog w) A E s (lt' (x,p) (y,q)) Q st
theorem K_congr {xs ys:Array Keyed} {i j:Nat} (h:xs[i]?=ys[j]?):K xs i=K ys j:=by unfold K;rw[h]
theorem K_bubble {xs:Array Keyed} {src d:Nat} (hs:src < xs.size) (hd:d≤src) (k:Nat):
  K (bubble xs src d) k=if k=src - d then K xs src else if src - d < k∧k≤src then K xs (k - 1) else K xs k:=by
 ¤e:=getElem?_bubble hs d hd k;¦h1:k=src - d
 ·rw[if_pos h1] at e ⊢;§K_congr e
 ·rw[if_neg h1] at e ⊢;¦h2:src - d < k∧k≤src
  ·rw[if_pos h2] at e ⊢;§K_congr e
  ·rw[if_neg h2] at e ⊢;§K_congr e
theorem K_mirror {xs:Array Keyed} {i j:Nat} (hj:j≤xs.size) (k:Nat):
  K (mirror xs i j ((j - i) / 2)) k=if i≤k∧k < j then K xs (i+j - 1 - k) else K xs k:=by
 ¤e:=getElem?_mirror_all (i:=i) hj k;¦h1:i≤k∧k < j
 ·rw[if_pos h1] at e ⊢;§K_congr e
 ·rw[if_neg h1] at e ⊢;§K_congr e
theorem K_mirror_equal {xs:Array Keyed} {i j:Nat} (hj:j≤xs.size) (heq:∀k,i≤k→k < j→K xs k=K xs (j - 1)) (k:Nat):
  K (mirror xs i j ((j - i) / 2)) k=K xs k:=by
 rw[K_mirror hj];split
 ·rw[heq _ ¥ ¥,heq k ¥ ¥]
 ·rfl
structure TB (a₀:Array Keyed) (st:SortSt):Prop where
 perm:(arrOf st).Perm a₀
 kind:kindOf st=Rk.kd
 failed:failedOf st=none
theorem TB.size {a₀:Array Keyed} {st:SortSt} (h:TB a₀ st):(arrOf st).size=a₀.size:=h.perm.size_eq
theorem TB.setArr {a₀:Array Keyed} {st:SortSt} (h:TB a₀ st) {xs:Array Keyed} (hp:xs.Perm (arrOf st)):TB a₀ (setArr st xs):=⟨hp.trans h.perm,h.kind,h.failed⟩
theorem y9 {xs:Array Keyed} (h0:IntKeys xs) {i:Nat} (hi:i < xs.size):∃x q,xs[i]?=some (x,q)∧Rk.P x∧Rk.ρ x=K xs i:=by
 ¤e:xs[i]?=some xs[i]:=getElem?_pos _ i hi;¶⟨xs[i].1,xs[i].2,e,h0 _ (by simp),?_⟩;unfold K;rw[e]
theorem IntKeys.perm {xs ys:Array Keyed} (h:IntKeys ys) (p:xs.Perm ys):IntKeys xs:=λq hq=>h q ((Array.perm_iff_toList_perm.mp p).mem_iff.mp hq)
def Seg (xs:Array Keyed) (lo hi:Nat):Prop:=∀i j,lo≤i→i≤j→j < hi→K xs i≤K xs j
def Dsc (xs:Array Keyed) (lo hi:Nat):Prop:=∀i j,lo≤i→i≤j→j < hi→K xs j≤K xs i
theorem Seg.one (xs:Array Keyed) (lo:Nat):Seg xs lo (lo+1):=λi j h1 h2 h3=>by
 have:i=j:=by ¡
 subst this;§Int.le_refl _
theorem Seg.more {xs:Array Keyed} {lo hi:Nat} (h:Seg xs lo hi) (hl:lo < hi) (e:K xs (hi - 1)≤K xs hi):Seg xs lo (hi+1):=λi j h1 h2 h3=>by
 ¦hj:j < hi
 ·§h i j h1 h2 hj
 ·¤hj':j=hi:=by ¡
  subst hj';¦hi':i=j
  ·subst hi';§Int.le_refl _
  ·§Int.le_trans (h i (j - 1) h1 ¥ ¥) e
theorem Dsc.more {xs:Array Keyed} {lo hi:Nat} (h:Dsc xs lo hi) (hl:lo < hi) (e:K xs hi≤K xs (hi - 1)):Dsc xs lo (hi+1):=λi j h1 h2 h3=>by
 ¦hj:j < hi
 ·§h i j h1 h2 hj
 ·¤hj':j=hi:=by ¡
  subst hj';¦hi':i=j
  ·subst hi';§Int.le_refl _
  ·§Int.le_trans e (h i (j - 1) h1 ¥ ¥)
theorem Seg.congr {xs ys:Array Keyed} {lo hi:Nat} (h:Seg xs lo hi) (e:∀k,lo≤k→k < hi→K ys k=K xs k):Seg ys lo hi:=λi j h1 h2 h3=>by
 rw[e i h1 ¥,e j ¥ h3];§h i j h1 h2 h3
theorem Dsc.congr {xs ys:Array Keyed} {lo hi:Nat} (h:Dsc xs lo hi) (e:∀k,lo≤k→k < hi→K ys k=K xs k):Dsc ys lo hi:=λi j h1 h2 h3=>by
 rw[e i h1 ¥,e j ¥ h3];§h i j h1 h2 h3
theorem Dsc.turn {xs:Array Keyed} {lo hi:Nat} (h:Dsc xs lo hi) (hs:hi≤xs.size):Seg (mirror xs lo hi ((hi - lo) / 2)) lo hi:=λi j h1 h2 h3=>by
 rw[K_mirror hs,K_mirror hs,if_pos ⟨h1,¥⟩,if_pos ⟨¥,h3⟩];§h _ _ ¥ ¥ ¥
theorem Eb {xs:Array Keyed} {lo hi:Nat} (hs:hi≤xs.size) {k:Nat} (hk:k < lo):K (mirror xs lo hi ((hi - lo) / 2)) k=K xs k:=by
 rw[K_mirror hs,if_neg ¥]
structure Kept (lo:Nat) (st st':SortSt):Prop where
 pend:pendingOf st'=pendingOf st
 low:∀k,k < lo→K (arrOf st') k=K (arrOf st) k
theorem Kept.refl (lo:Nat) (st:SortSt):Kept lo st st:=⟨rfl,λ_ _=>rfl⟩
theorem Kept.arr {lo:Nat} {st:SortSt} {xs:Array Keyed} (e:∀k,k < lo→K xs k=K (arrOf st) k):Kept lo st (setArr st xs):=⟨rfl,e⟩
theorem Kept.trans {lo:Nat} {a b c:SortSt} (h:Kept lo a b) (g:Kept lo b c):Kept lo a c:=⟨g.pend.trans h.pend,λk hk=>(g.low k hk).trans (h.low k hk)⟩
section
variable {prog:Program} {w:World} {A:Around} {E:Value→Shared→Prop} {s:Shared} {a₀:Array Keyed} [LtR prog w A E s]
theorem pf {st:SortSt} {i j:Nat} {Q:Option Bool→SortSt→Prop} (hB:TB a₀ st) (h0:IntKeys a₀) (hi:i < a₀.size) (hj:j < a₀.size)
  (h:Q (some (decide (K (arrOf st) i < K (arrOf st) j))) st):wpS (model prog w) A E s (ltAt' i j) Q st:=by
 ¤hx:=IntKeys.perm h0 hB.perm;£⟨x,p,e1,h1,r1⟩:=y9 hx (i:=i) (by rw[hB.size];§hi);£⟨y,q,e2,h2,r2⟩:=y9 hx (i:=j) (by rw[hB.size];§hj);rw[ltAt'_eq];¶wpS_bind (wpS_get ?_);show wpS _ _ _ _ (elem' (arrOf st) i >>=λx=>elem' (arrOf st) j >>=λy=>lt' x y) Q st
 rw[elem'_eq,elem'_eq,e1,e2];¶wpS_bind (wpS_pure (wpS_bind (wpS_pure ?_)));§LtR.lt st x y p q Q h1 h2 hB.kind (by rw[r1,r2];§h)
theorem Kt {st:SortSt} {lo a nrem:Nat} {Q:AscSt→SortSt→Prop} (h0:IntKeys a₀) (hn:lo+nrem≤a₀.size) (ha:1≤a) (han:a≤nrem) (hB:TB a₀ st) (hs:Seg (arrOf st) lo (lo+a))
  (h:∀n,a≤n→n≤nrem→Seg (arrOf st) lo (lo+n)→(n=nrem∨K (arrOf st) (lo+n) < K (arrOf st) (lo+n - 1))→Q (none,n) st):
  wpS (model prog w) A E s (forIn [a:nrem] ((none,a):AscSt) λ_ r=>do
   let __x ←ltAt' (lo+r.snd) (lo+r.snd - 1)
   match __x with
   | some smaller=>if smaller=true then pure (ForInStep.done (none,r.snd)) else pure (ForInStep.yield (none,r.snd+1))
   | _=>pure (ForInStep.done (some none,r.snd))) Q st:=by
 ¶wpS_forRange (I:=λx c st'=>st'=st∧c=(none,x)∧Seg (arrOf st) lo (lo+x)) ?step ?fin ⟨rfl,rfl,hs⟩;case fin=>
  rintro c st' ⟨rfl,rfl,hs'⟩;rw[show max a nrem=nrem by ¡] at hs' ⊢;§h nrem han (Nat.le_refl _) hs' (.inl rfl)
 case step=>
  rintro x c st' hax hxn ⟨rfl,rfl,hs'⟩;dsimp only;¶wpS_bind (pf hB h0 ¥ ¥ ?_);¦hless:K (arrOf st') (lo+x) < K (arrOf st') (lo+x - 1)
  ·simp only[hless,decide_true,if_true];§wpS_pure (h x hax ¥ hs' (.inr hless))
  ·simp only[hless,decide_false,Bool.false_eq_true,if_false];§wpS_pure ⟨rfl,rfl,hs'.more ¥ (Int.not_lt.mp hless)⟩
end
end gc
namespace gc
open PySem PyProof.Rows
variable [Rk]
noncomputable def ascL (lo a nrem:Nat):StateT SortSt Sem AscSt:=
 forIn [a:nrem] ((none,a):AscSt) λ_ r=>do
   let __x ←ltAt' (lo+r.snd) (lo+r.snd - 1)
   match __x with
   | some smaller=>if smaller=true then pure (ForInStep.done (none,r.snd)) else pure (ForInStep.yield (none,r.snd+1))
   | _=>pure (ForInStep.done (some none,r.snd))
noncomputable def Cd (lo n nrem:Nat):StateT SortSt Sem (Option Nat):=do
 reverseSlice' lo (lo+n)
 let r ←ascL lo n nrem
 match r.fst with
 | some x=>pure x
 | none=>pure (some r.snd)
noncomputable def dscL (lo n nrem:Nat):StateT SortSt Sem DescSt:=
 forIn [n:nrem] ((none,n,0):DescSt) λ_ r=>do
  let __x ←ltAt' (lo+r.snd.fst) (lo+r.snd.fst - 1)
  match __x with
  | some smaller=>
   if smaller=true then
    if r.snd.snd > 0 then do
     reverseSlice' (lo+r.snd.fst - (r.snd.snd+1)) (lo+r.snd.fst)
     pure (ForInStep.yield (none,r.snd.fst+1,0))
    else pure (ForInStep.yield (none,r.snd.fst+1,0))
   else do
    let __x ←ltAt' (lo+r.snd.fst - 1) (lo+r.snd.fst)
    match __x with
    | some larger=>
     if larger=true then pure (ForInStep.done (none,r.snd.fst,r.snd.snd))
     else pure (ForInStep.yield (none,r.snd.fst+1,r.snd.snd+1))
    | _=>pure (ForInStep.done (some none,r.snd.fst,r.snd.snd))
  | _=>pure (ForInStep.done (some none,r.snd.fst,r.snd.snd))
noncomputable def dscP (lo n nrem:Nat):StateT SortSt Sem (Option Nat):=do
 liftM (rule "list.sort.descending-run")
 let r ←dscL lo (n+1) nrem
 match r.fst with
 | some x=>pure x
 | none=>
  if r.snd.snd > 0 then do
   reverseSlice' (lo+r.snd.fst - (r.snd.snd+1)) (lo+r.snd.fst)
   Cd lo r.snd.fst nrem
  else Cd lo r.snd.fst nrem
theorem count_eq (lo nrem:Nat):countRun' lo nrem=(do
  let r ←ascL lo 1 nrem
  match r.fst with
  | some x=>pure x
  | none=>
   if (r.snd==nrem)=true then pure (some r.snd)
   else if r.snd > 1 then do
    let __x ←ltAt' lo (lo+r.snd - 1)
    match __x with
    | some rose=>if rose=true then pure (some r.snd) else do
      reverseSlice' lo (lo+r.snd)
      dscP lo r.snd nrem
    | _=>pure none
   else dscP lo r.snd nrem):=by
 rw[countRun'_eq];unfold dscP Cd dscL ascL;¶bind_congr (m:=StateT SortSt Sem) λr=>?_;£⟨r,n⟩:=r;cases r with
 | some r=>rfl
 | none=>
  dsimp only;split
  ·rfl
  ·split
   ·congr 1
    funext x
    cases x with
    | none=>rfl
    | some rose=>
     dsimp only;split
     ·rfl
     ·congr 1
      funext _r
      congr 1;funext _u;congr 1;congr 1;funext s2;£⟨r2,n2,q2⟩:=s2
      cases r2 with
      | some r2=>rfl
      | none=>
       dsimp only;split
       ·congr 1;funext _v;congr 1;funext _w;congr 1;funext s3;£⟨r3,n3⟩:=s3;cases r3 <;> rfl
       ·congr 1;funext _w;congr 1;funext s3;£⟨r3,n3⟩:=s3;cases r3 <;> rfl
   ·congr 1;funext _u;congr 1;congr 1;funext s2;£⟨r2,n2,q2⟩:=s2
    cases r2 with
    | some r2=>rfl
    | none=>
     dsimp only;split
     ·congr 1;funext _v;congr 1;funext _w;congr 1;funext s3;£⟨r3,n3⟩:=s3;cases r3 <;> rfl
     ·congr 1;funext _w;congr 1;funext s3;£⟨r3,n3⟩:=s3;cases r3 <;> rfl
section
variable {prog:Program} {w:World} {A:Around} {E:Value→Shared→Prop} {s:Shared} {a₀:Array Keyed} [LtR prog w A E s]
theorem Fl {st:SortSt} {lo n nrem:Nat} {Q:Option Nat→SortSt→Prop} (h0:IntKeys a₀) (hn:lo+nrem≤a₀.size) (h1:1≤n) (hnn:n≤nrem) (hB:TB a₀ st) (hd:Dsc (arrOf st) lo (lo+n))
  (h:∀m st',TB a₀ st'→Kept lo st st'→1≤m→m≤nrem→Seg (arrOf st') lo (lo+m)→Q (some m) st'):wpS (model prog w) A E s (Cd lo n nrem) Q st:=by
 unfold Cd;¤hsz:lo+n≤(arrOf st).size:=by rw[hB.size];¡
 ¶wpS_bind (wpS_reverse ?_);¤hB':TB a₀ (setArr st (mirror (arrOf st) lo (lo+n) ((lo+n - lo) / 2))):=hB.setArr (mirror_perm _ _ _ _);¶wpS_bind (Kt h0 hn h1 hnn hB' (hd.turn hsz) λm hm1 hm2 hsm _=>wpS_pure (h m _ hB' ⟨rfl,λk hk=>Eb hsz hk⟩ ¥ hm2 hsm))
theorem wp_dsc {st:SortSt} {lo n nrem:Nat} {Q:DescSt→SortSt→Prop} (h0:IntKeys a₀) (hn:lo+nrem≤a₀.size) (h1:1≤n) (hnn:n≤nrem) (hB:TB a₀ st) (hd:Dsc (arrOf st) lo (lo+n))
  (h:∀m neq st',TB a₀ st'→Kept lo st st'→n≤m→m≤nrem→Dsc (arrOf st') lo (lo+m)→neq+1≤m→(∀i,lo+m - (neq+1)≤i→i < lo+m→K (arrOf st') i=K (arrOf st') (lo+m - 1))→Q (none,m,neq) st'):
  wpS (model prog w) A E s (dscL lo n nrem) Q st:=by
 unfold dscL;¶wpS_forRange (I:=λx c st'=>∃neq,c=(none,x,neq)∧TB a₀ st'∧Kept lo st st'∧Dsc (arrOf st') lo (lo+x)∧neq+1≤x∧
   (∀i,lo+x - (neq+1)≤i→i < lo+x→K (arrOf st') i=K (arrOf st') (lo+x - 1))) ?step ?fin ⟨0,rfl,hB,Kept.refl _ _,hd,¥,λi h1 h2=>by congr 1;¡⟩
 case fin=>
  rintro c st' ⟨neq,rfl,hB',hk,hs',hq,he⟩;rw[show max n nrem=nrem by ¡] at hs' hq he ⊢;§h nrem neq st' hB' hk hnn (Nat.le_refl _) hs' hq he
 case step=>
  rintro x c st' hax hxn ⟨neq,rfl,hB',hk,hs',hq,he⟩;dsimp only;¤hsz:lo+x≤(arrOf st').size:=by rw[hB'.size];¡
  ¶wpS_bind (pf hB' h0 ¥ ¥ ?_);¦hless:K (arrOf st') (lo+x) < K (arrOf st') (lo+x - 1)
  ·simp only[hless,decide_true,if_true];¤d1:Dsc (arrOf st') lo (lo+(x+1)):=hs'.more ¥ (Int.le_of_lt hless);¦hneq:neq > 0
   ·rw[if_pos hneq];¤eq:=K_mirror_equal hsz he;§wpS_bind (wpS_reverse (wpS_pure ⟨0,rfl,hB'.setArr (mirror_perm _ _ _ _),hk.trans (Kept.arr λk _=>eq k),d1.congr λk _ _=>eq k,¥,λi h1 h2=>by congr 1;¡⟩))
   ·rw[if_neg hneq];§wpS_pure ⟨0,rfl,hB',hk,d1,¥,λi h1 h2=>by congr 1;¡⟩
  ·simp only[hless,decide_false,Bool.false_eq_true,if_false];¶wpS_bind (pf hB' h0 ¥ ¥ ?_);¦hlarger:K (arrOf st') (lo+x - 1) < K (arrOf st') (lo+x)
   ·simp only[hlarger,decide_true,if_true];§wpS_pure (h x neq st' hB' hk hax ¥ hs' hq he)
   ·simp only[hlarger,decide_false,Bool.false_eq_true,if_false];¤heqx:K (arrOf st') (lo+x)=K (arrOf st') (lo+x - 1):=by ¡
    ¶wpS_pure ⟨neq+1,rfl,hB',hk,hs'.more ¥ ¥,¥,λi h1 h2=>?_⟩;rw[show lo+(x+1) - 1=lo+x by ¡];¦hix:i=lo+x
    ·subst hix;rfl
    ·rw[heqx];§he i ¥ ¥
theorem Gr {st:SortSt} {lo n nrem:Nat} {Q:Option Nat→SortSt→Prop} (h0:IntKeys a₀) (hn:lo+nrem≤a₀.size) (hnn:n+1≤nrem) (hB:TB a₀ st) (hs:Dsc (arrOf st) lo (lo+(n+1)))
  (h:∀m st',TB a₀ st'→Kept lo st st'→1≤m→m≤nrem→Seg (arrOf st') lo (lo+m)→Q (some m) st'):wpS (model prog w) A E s (dscP lo n nrem) Q st:=by
 unfold dscP;¶wpS_bind (wpS_lift (wpAny_rule ⟨rfl,?_⟩));¶wpS_bind (wp_dsc h0 hn ¥ hnn hB hs λm neq st' hB' hk hm1 hm2 hs' hq he=>?_);dsimp only;¤hsz:lo+m≤(arrOf st').size:=by rw[hB'.size];¡
 ¦hneq:neq > 0
 ·rw[if_pos hneq];¤eq:=K_mirror_equal hsz he;§wpS_bind (wpS_reverse (Fl h0 hn ¥ hm2 (hB'.setArr (mirror_perm _ _ _ _)) (hs'.congr λk _ _=>eq k) λm' st2 t2 k2=>h m' st2 t2 ((hk.trans (Kept.arr λk _=>eq k)).trans k2)))
 ·rw[if_neg hneq];§Fl h0 hn ¥ hm2 hB' hs' λm' st2 t2 k2=>h m' st2 t2 (hk.trans k2)
theorem L4 {st:SortSt} {lo nrem:Nat} {Q:Option Nat→SortSt→Prop} (h0:IntKeys a₀) (hn:lo+nrem≤a₀.size) (h1:1≤nrem) (hB:TB a₀ st)
  (h:∀m st',TB a₀ st'→Kept lo st st'→1≤m→m≤nrem→Seg (arrOf st') lo (lo+m)→Q (some m) st'):wpS (model prog w) A E s (countRun' lo nrem) Q st:=by
 rw[count_eq];¶wpS_bind (Kt h0 hn (Nat.le_refl 1) h1 hB (Seg.one _ _) λn hn1 hn2 hsn hor=>?_);dsimp only;¦hnn:n=nrem
 ·rw[if_pos (by simpa using hnn)];§wpS_pure (h n st hB (Kept.refl _ _) hn1 hn2 hsn)
 ·rw[if_neg (by simpa using hnn)];¤hlt:K (arrOf st) (lo+n) < K (arrOf st) (lo+n - 1):=hor.resolve_left hnn;¦hgt:n > 1
  ·rw[if_pos hgt];¶wpS_bind (pf hB h0 ¥ ¥ ?_);¦hrose:K (arrOf st) lo < K (arrOf st) (lo+n - 1)
   ·simp only[hrose,decide_true,if_true];§wpS_pure (h n st hB (Kept.refl _ _) hn1 hn2 hsn)
   ·simp only[hrose,decide_false,Bool.false_eq_true,if_false];¤hsz:lo+n≤(arrOf st).size:=by rw[hB.size];¡
    ¤hall:∀k,lo≤k→k < lo+n→K (arrOf st) k=K (arrOf st) (lo+n - 1):=by
     ¿k hk1 hk;¤a1:=hsn lo k ¥ hk1 hk;¤a2:=hsn k (lo+n - 1) hk1 ¥ ¥;¡
    ¤eq:=K_mirror_equal hsz hall;¶wpS_bind (wpS_reverse (Gr h0 hn ¥ (hB.setArr (mirror_perm _ _ _ _)) ?_ λm' st2 t2 k2=>h m' st2 t2 ((Kept.arr λk _=>eq k).trans k2)));¤d0:Dsc (arrOf st) lo (lo+n):=λi j h1 h2 h3=>by rw[hall i h1 ¥,hall j ¥ h3];§Int.le_refl _
    §(d0.more ¥ (Int.le_of_lt hlt)).congr λk _ _=>eq k
  ·rw[if_neg hgt];¤hn1':n=1:=by ¡
   subst hn1';¶Gr h0 hn ¥ hB ?_ h;¤d0:Dsc (arrOf st) lo (lo+1):=λi j h1 h2 h3=>by
    have:i=j:=by ¡
    subst this;§Int.le_refl _
   §d0.more ¥ (Int.le_of_lt hlt)
end
end gc
namespace gc
open PySem PyProof.Rows
variable [Rk]
section
variable {prog:Program} {w:World} {A:Around} {E:Value→Shared→Prop} {s:Shared} {a₀:Array Keyed} [LtR prog w A E s]
theorem G9 {st:SortSt} {lo n ok:Nat} {Q:Bool→SortSt→Prop} (h0:IntKeys a₀) (hn:lo+n≤a₀.size) (hok:ok≤n) (h1:1≤ok) (hB:TB a₀ st) (hs:Seg (arrOf st) lo (lo+ok))
  (h:∀st',TB a₀ st'→Kept lo st st'→Seg (arrOf st') lo (lo+n)→Q true st'):wpS (model prog w) A E s (binarySort' lo n ok) Q st:=by
 rw[binarySort'_eq];¶wpS_bind (wpS_mono (wpS_forRange (I:=λk c st'=>c=(none,())∧TB a₀ st'∧Kept lo st st'∧Seg (arrOf st') lo (lo+min k n))
  (Q:=λc st'=>c=(none,())∧TB a₀ st'∧Kept lo st st'∧Seg (arrOf st') lo (lo+n)) ?step ?fin ?init) ?post)
 case post=>
  rintro c st' ⟨rfl,hB',hk,hs'⟩;§wpS_pure (h st' hB' hk hs')
 case init=>§⟨rfl,hB,Kept.refl _ _,by rw[show min (max ok 1) n=ok by ¡];§hs⟩
 case fin=>
  rintro c st' ⟨hc,hB',hk,hs'⟩;¶⟨hc,hB',hk,?_⟩;rwa [show min (max (max ok 1) n) n=n by ¡] at hs'
 case step=>
  rintro k c st' hak hkn ⟨rfl,hB',hkp,hs'⟩;rw[show min k n=k by ¡] at hs';¤hk:lo+k < a₀.size:=by ¡
  ¶wpS_bind (wpS_mono (wpS_forRange (I:=λx c st''=>st''=st'∧∃l r,c=(none,l,r)∧l≤r∧r≤k∧r - l≤k - x∧
    (∀i,i < l→K (arrOf st') (lo+i)≤K (arrOf st') (lo+k))∧(∀i,r≤i→i < k→K (arrOf st') (lo+k) < K (arrOf st') (lo+i)))
   (Q:=λc st''=>st''=st'∧∃l r,c=(none,l,r)∧l≤k∧
    (∀i,i < l→K (arrOf st') (lo+i)≤K (arrOf st') (lo+k))∧(∀i,l≤i→i < k→K (arrOf st') (lo+k) < K (arrOf st') (lo+i))) ?istep ?ifin ?iinit) ?ipost)
  case iinit=>§⟨rfl,0,k,rfl,¥,¥,¥,λi hi=>by ¡,λi h1 h2=>by ¡⟩
  case ifin=>
   rintro c st'' ⟨rfl,l,r,rfl,hlr,hrk,hm,hlo,hhi⟩;have:l=r:=by ¡
   subst this;§⟨rfl,l,l,rfl,hrk,hlo,hhi⟩
  case istep=>
   rintro x c st'' _ hxk ⟨rfl,l,r,rfl,hlr,hrk,hm,hlo,hhi⟩;dsimp only;¦hge:l≥r
   ·rw[if_pos hge];have:l=r:=by ¡
    subst this;§wpS_pure ⟨rfl,l,l,rfl,hrk,hlo,hhi⟩
   ·rw[if_neg hge];¶wpS_bind (pf hB' h0 hk ¥ ?_);¦hless:K (arrOf st'') (lo+k) < K (arrOf st'') (lo+(l+r) / 2)
    ·simp only[hless,decide_true,if_true];¶wpS_pure ⟨rfl,l,(l+r) / 2,rfl,¥,¥,¥,hlo,λi h1 h2=>?_⟩;§Int.lt_of_lt_of_le hless (hs' _ _ ¥ ¥ ¥)
    ·simp only[hless,decide_false,Bool.false_eq_true,if_false];¶wpS_pure ⟨rfl,(l+r) / 2+1,r,rfl,¥,¥,¥,λi h1=>?_,hhi⟩;§Int.le_trans (hs' (lo+i) (lo+(l+r) / 2) ¥ ¥ ¥) (Int.not_lt.mp hless)
  case ipost=>
   rintro c st'' ⟨rfl,l,r,rfl,hlk,hlo,hhi⟩;show wpS _ _ _ _ (do moveDown' (lo+k) (lo+l);pure (ForInStep.yield (none,()))) _ _
   rw[moveDown'_eq];¤hks:lo+k < (arrOf st'').size:=by rw[hB'.size];§hk
   ¤ed:lo+k - (lo+l)=k - l:=by ¡
   rw[ed];¤es:lo+k - (k - l)=lo+l:=by ¡
   ¶wpS_bind (wpS_modify (wpS_pure ⟨rfl,hB'.setArr (bubble_perm _ _ _),hkp.trans (Kept.arr λj hj=>?_),?_⟩))
   ·rw[K_bubble hks ¥,es,if_neg ¥,if_neg ¥]
   ·rw[show min (k+1) n=k+1 by ¡];¿i j hi hij hj;show K (bubble (arrOf st'') (lo+k) (k - l)) i≤K (bubble (arrOf st'') (lo+k) (k - l)) j
    rw[K_bubble hks ¥,K_bubble hks ¥,es];¤low:∀i,lo≤i→i < lo+l→K (arrOf st'') i≤K (arrOf st'') (lo+k):=λi h1 h2=>by
     have:=hlo (i - lo) ¥;rwa [show lo+(i - lo)=i by ¡] at this
    ¤high:∀i,lo+l≤i→i < lo+k→K (arrOf st'') (lo+k) < K (arrOf st'') i:=λi h1 h2=>by
     have:=hhi (i - lo) ¥ ¥;rwa [show lo+(i - lo)=i by ¡] at this
    repeat' split
    all_goals first
     | (exfalso;¡)
     | §Int.le_refl _
     | §low _ ¥ ¥
     | §Int.le_of_lt (high _ ¥ ¥)
     | §hs' _ _ ¥ ¥ ¥
end
end gc
namespace gc
open PySem PyProof.Rows
variable [Rk]
noncomputable def Po:Bool→Keyed→Array Keyed→Nat→Nat→Nat→StateT SortSt Sem (Option Nat):=sortPriv% PySem.Builtin.gallop
noncomputable def gm (p:Keyed):Int:=Rk.ρ p.1
noncomputable def bey (left:Bool) (key:Int) (arr:Array Keyed) (i:Nat):Bool:=if left then decide (K arr i < key) else !decide (key < K arr i)
section
variable {prog:Program} {w:World} {A:Around} {E:Value→Shared→Prop} {s:Shared} [LtR prog w A E s]
theorem Ge {st:SortSt} {a b:Int} {x y:Value} {p q:Value} {Q:Option Bool→SortSt→Prop} (h1:Rk.P x) (r1:Rk.ρ x=a) (h2:Rk.P y) (r2:Rk.ρ y=b) (hk:kindOf st=Rk.kd) (h:Q (some (decide (a < b))) st):wpS (model prog w) A E s (lt' (x,p) (y,q)) Q st:=
 LtR.lt st x y p q Q h1 h2 hk (by rw[r1,r2];§h)
theorem Gw {st:SortSt} {arr:Array Keyed} {i:Nat} {x:Keyed} {Q:Keyed→SortSt→Prop} (e:arr[i]?=some x) (h:Q x st):wpS (model prog w) A E s (elem' arr i) Q st:=by
 rw[elem'_eq,e];§wpS_pure h
theorem fk {st:SortSt} {left:Bool} {c:Int} {x₀ kp:Value} {arr:Array Keyed} {base n hint:Nat} {Q:Option Nat→SortSt→Prop} (hx₀:Rk.P x₀) (hc₀:Rk.ρ x₀=c) (hk:kindOf st=Rk.kd) (hI:IntKeys arr) (hsz:base+n≤arr.size) (hh:hint < n)
  (hs:Seg arr base (base+n))
  (h:∀k,k≤n→(∀i,i < k→bey left c arr (base+i)=true)→(∀i,k≤i→i < n→bey left c arr (base+i)=false)→Q (some k) st):
  wpS (model prog w) A E s (Po left (x₀,kp) arr base n hint) Q st:=by
 ¤mono:∀i j,i≤j→j < n→bey left c arr (base+j)=true→bey left c arr (base+i)=true:=λi j hij hj hb=>by
  ¤hK:=hs (base+i) (base+j) ¥ ¥ ¥;unfold bey at hb ⊢;cases left with
  | true=>
   have:K arr (base+j) < c:=of_decide_eq_true hb;§decide_eq_true ¥
  | false=>
   ¤hb:(!decide (c < K arr (base+j)))=true:=hb;show (!decide (c < K arr (base+i)))=true
   rw[Bool.not_eq_true',decide_eq_false_iff_not] at hb ⊢;¡
 ¤monoF:∀i j,i≤j→j < n→bey left c arr (base+i)=false→bey left c arr (base+j)=false:=λi j hij hj hb=>by
  cases e:bey left c arr (base+j) with
  | false=>rfl
  | true=>rw[mono i j hij hj e] at hb;cases hb
 ¤ask:∀{β:Type} (i:Nat) {Q':β→SortSt→Prop} {f:Option Bool→StateT SortSt Sem β},i < n→wpS (model prog w) A E s (f (some (bey left c arr (base+i)))) Q' st→wpS (model prog w) A E s ((do
   let x ←elem' arr (base+i)
   if left=true then lt' x (x₀,kp) else do
    let __x ←lt' (x₀,kp) x
    pure (__x.map (!·)):StateT SortSt Sem (Option Bool)) >>=f) Q' st:=λ{β} i {Q' f} hi hf=>by
  £⟨y,q,e,hy,ry⟩:=y9 hI (i:=base+i) ¥;¶wpS_bind (wpS_bind (Gw e ?_));unfold bey at hf;cases left with
  | true=>§Ge hy ry hx₀ hc₀ hk hf
  | false=>§wpS_bind (Ge hx₀ hc₀ hy ry hk (wpS_pure hf))
 ¶ask hint hh ?_;dsimp only;cases e0:bey left c arr (base+hint) with
 | true=>
  rw[if_pos rfl];¶wpS_bind (wpS_mono (wpS_forRange (I:=λx c' st'=>st'=st∧∃g1 g2,c'=(none,g1,g2)∧x+1≤g2∧g1 < g2∧hint+g1 < n∧bey left c arr (base+(hint+g1))=true)
   (Q:=λc' st'=>st'=st∧∃g1 g2,c'=(none,g1,g2)∧g1 < g2∧hint+g1 < n∧bey left c arr (base+(hint+g1))=true∧(g2≥n - hint∨(hint+g2 < n∧bey left c arr (base+(hint+g2))=false))) ?_ ?_ ⟨rfl,0,1,rfl,¥,¥,¥,e0⟩) ?_)
  ·rintro x c' st' _ hx ⟨rfl,g1,g2,rfl,h1,h2,h3,h4⟩;dsimp only;¦hge:g2≥n - hint
   ·rw[if_pos hge];§wpS_pure ⟨rfl,g1,g2,rfl,h2,h3,h4,.inl hge⟩
   ·rw[if_neg hge];¶ask (hint+g2) ¥ ?_;dsimp only;cases e:bey left c arr (base+(hint+g2)) with
    | true=>
     rw[if_neg (by decide)];§wpS_pure ⟨rfl,_,_,rfl,¥,¥,¥,e⟩
    | false=>
     rw[if_pos (by decide)];§wpS_pure ⟨rfl,g1,g2,rfl,h2,h3,h4,.inr ⟨¥,e⟩⟩
  ·rintro c' st' ⟨rfl,g1,g2,rfl,h1,h2,h3,h4⟩;§⟨rfl,g1,g2,rfl,h2,h3,h4,.inl ¥⟩
  ·rintro c' st' ⟨rfl,g1,g2,rfl,h2,h3,h4,h5⟩;dsimp only;¤hLo:∀i,i < hint+g1+1→bey left c arr (base+i)=true:=λi hi=>mono i (hint+g1) ¥ h3 h4;¤hHi:∀i,hint+min g2 (n - hint)≤i→i < n→bey left c arr (base+i)=false:=λi hi hn=>by
    rcases h5 with h5 | ⟨h5,h6⟩
    ·exfalso
     ¡
    ·§monoF (hint+g2) i ¥ hn h6
   ¤hLH:hint+g1+1≤hint+min g2 (n - hint):=by ¡
   ¤hHn:hint+min g2 (n - hint)≤n:=by ¡
   ¶wpS_bind (wpS_mono (wpS_forRange (I:=λx c2 st2=>st2=st'∧∃l r,c2=(none,l,r)∧l≤r∧r≤n∧r - l≤n - x∧(∀i,i < l→bey left c arr (base+i)=true)∧(∀i,r≤i→i < n→bey left c arr (base+i)=false))
    (Q:=λc2 st2=>st2=st'∧∃r,c2=(none,r,r)∧r≤n∧(∀i,i < r→bey left c arr (base+i)=true)∧(∀i,r≤i→i < n→bey left c arr (base+i)=false)) ?_ ?_ ⟨rfl,_,_,rfl,hLH,hHn,¥,hLo,hHi⟩) ?_)
   ·rintro x c' st' _ hx ⟨rfl,l,r,rfl,hlr,hrn,hm,h1,h2⟩;dsimp only;¦hge:l≥r
    ·rw[if_pos hge];have:l=r:=by ¡
     subst this;§wpS_pure ⟨rfl,l,rfl,hrn,h1,h2⟩
    ·rw[if_neg hge];¶ask (l+(r - l) / 2) ¥ ?_;dsimp only;cases e:bey left c arr (base+(l+(r - l) / 2)) with
     | true=>
      rw[if_pos rfl];§wpS_pure ⟨rfl,_,_,rfl,¥,hrn,¥,λi hi=>mono i _ ¥ ¥ e,h2⟩
     | false=>
      rw[if_neg Bool.false_ne_true];§wpS_pure ⟨rfl,_,_,rfl,¥,¥,¥,h1,λi hi hn=>monoF _ i hi hn e⟩
   ·rintro c' st' ⟨rfl,l,r,rfl,hlr,hrn,hm,h1,h2⟩;have:l=r:=by ¡
    subst this;§⟨rfl,l,rfl,hrn,h1,h2⟩
   ·rintro c' st' ⟨rfl,r,rfl,hrn,h1,h2⟩;§wpS_pure (h r hrn h1 h2)
 | false=>
  rw[if_neg Bool.false_ne_true];¶wpS_bind (wpS_mono (wpS_forRange (I:=λx c' st'=>st'=st∧∃g1 g2,c'=(none,g1,g2)∧x+1≤g2∧g1 < g2∧g1≤hint∧bey left c arr (base+(hint - g1))=false)
   (Q:=λc' st'=>st'=st∧∃g1 g2,c'=(none,g1,g2)∧g1 < g2∧g1≤hint∧bey left c arr (base+(hint - g1))=false∧(g2≥hint+1∨(g2≤hint∧bey left c arr (base+(hint - g2))=true))) ?_ ?_ ⟨rfl,0,1,rfl,¥,¥,¥,e0⟩) ?_)
  ·rintro x c' st' _ hx ⟨rfl,g1,g2,rfl,h1,h2,h3,h4⟩;dsimp only;¦hge:g2≥hint+1
   ·rw[if_pos hge];§wpS_pure ⟨rfl,g1,g2,rfl,h2,h3,h4,.inl hge⟩
   ·rw[if_neg hge];¶ask (hint - g2) ¥ ?_;dsimp only;cases e:bey left c arr (base+(hint - g2)) with
    | true=>
     rw[if_pos rfl];§wpS_pure ⟨rfl,g1,g2,rfl,h2,h3,h4,.inr ⟨¥,e⟩⟩
    | false=>
     rw[if_neg Bool.false_ne_true];§wpS_pure ⟨rfl,_,_,rfl,¥,¥,¥,e⟩
  ·rintro c' st' ⟨rfl,g1,g2,rfl,h1,h2,h3,h4⟩;§⟨rfl,g1,g2,rfl,h2,h3,h4,.inl ¥⟩
  ·rintro c' st' ⟨rfl,g1,g2,rfl,h2,h3,h4,h5⟩;dsimp only;¤hLo:∀i,i < hint+1 - min g2 (hint+1)→bey left c arr (base+i)=true:=λi hi=>by
    rcases h5 with h5 | ⟨h5,h6⟩
    ·exfalso
     ¡
    ·§mono i (hint - g2) ¥ ¥ h6
   ¤hHi:∀i,hint - g1≤i→i < n→bey left c arr (base+i)=false:=λi hi hn=>monoF (hint - g1) i hi hn h4;¤hLH:hint+1 - min g2 (hint+1)≤hint - g1:=by ¡
   ¤hHn:hint - g1≤n:=by ¡
   ¶wpS_bind (wpS_mono (wpS_forRange (I:=λx c2 st2=>st2=st'∧∃l r,c2=(none,l,r)∧l≤r∧r≤n∧r - l≤n - x∧(∀i,i < l→bey left c arr (base+i)=true)∧(∀i,r≤i→i < n→bey left c arr (base+i)=false))
    (Q:=λc2 st2=>st2=st'∧∃r,c2=(none,r,r)∧r≤n∧(∀i,i < r→bey left c arr (base+i)=true)∧(∀i,r≤i→i < n→bey left c arr (base+i)=false)) ?_ ?_ ⟨rfl,_,_,rfl,hLH,hHn,¥,hLo,hHi⟩) ?_)
   ·rintro x c' st' _ hx ⟨rfl,l,r,rfl,hlr,hrn,hm,h1,h2⟩;dsimp only;¦hge:l≥r
    ·rw[if_pos hge];have:l=r:=by ¡
     subst this;§wpS_pure ⟨rfl,l,rfl,hrn,h1,h2⟩
    ·rw[if_neg hge];¶ask (l+(r - l) / 2) ¥ ?_;dsimp only;cases e:bey left c arr (base+(l+(r - l) / 2)) with
     | true=>
      rw[if_pos rfl];§wpS_pure ⟨rfl,_,_,rfl,¥,hrn,¥,λi hi=>mono i _ ¥ ¥ e,h2⟩
     | false=>
      rw[if_neg Bool.false_ne_true];§wpS_pure ⟨rfl,_,_,rfl,¥,¥,¥,h1,λi hi hn=>monoF _ i hi hn e⟩
   ·rintro c' st' ⟨rfl,l,r,rfl,hlr,hrn,hm,h1,h2⟩;have:l=r:=by ¡
    subst this;§⟨rfl,l,rfl,hrn,h1,h2⟩
   ·rintro c' st' ⟨rfl,r,rfl,hrn,h1,h2⟩;§wpS_pure (h r hrn h1 h2)
end
end gc
namespace gc
open PySem PyProof.Rows
variable [Rk]
def Srt (l:List Keyed):Prop:=l.Pairwise λx y=>gm x≤gm y
structure Out (o ra rb all:List Keyed):Prop where
 perm:(o++ra++rb).Perm all
 srt:Srt o
 sa:Srt ra
 sb:Srt rb
 low:∀x∈o,∀y,y∈ra∨y∈rb→gm x≤gm y
theorem Srt.split {l:List Keyed} (h:Srt l) (k:Nat):Srt (l.take k)∧Srt (l.drop k)∧∀x∈l.take k,∀y∈l.drop k,gm x≤gm y:=by
 ¤e:l.take k++l.drop k=l:=List.take_append_drop k l;unfold Srt at h ⊢;rw[←e,List.pairwise_append] at h;§⟨h.1,h.2.1,h.2.2⟩
theorem Out.Mv {o ra rb all:List Keyed} (h:Out o ra rb all) (k:Nat) (hk:∀x∈ra.take k,∀y∈rb,gm x≤gm y):Out (o++ra.take k) (ra.drop k) rb all:=by
 £⟨s1,s2,s3⟩:=h.sa.split k;¶⟨?_,?_,s2,h.sb,λx hx y hy=>?_⟩
 ·rw[List.append_assoc o,List.take_append_drop];§h.perm
 ·unfold Srt;rw[List.pairwise_append];§⟨h.srt,s1,λx hx y hy=>h.low x hx y (.inl (List.mem_of_mem_take hy))⟩
 ·rcases List.mem_append.mp hx with k1 | k1
  ·§h.low x k1 y (hy.imp List.mem_of_mem_drop id)
  ·rcases hy with hy | hy
   ·§s3 x k1 y hy
   ·§hk x k1 y hy
theorem Out.K5 {o ra rb all:List Keyed} (h:Out o ra rb all) (k:Nat) (hk:∀x∈rb.take k,∀y∈ra,gm x≤gm y):Out (o++rb.take k) ra (rb.drop k) all:=by
 £⟨s1,s2,s3⟩:=h.sb.split k;¶⟨?_,?_,h.sa,s2,λx hx y hy=>?_⟩
 ·¶List.Perm.trans ?_ h.perm;conv=>rhs;rw[←List.take_append_drop k rb]
  rw[List.append_assoc,List.append_assoc,List.append_assoc];¶List.Perm.append_left o ?_;rw[←List.append_assoc,←List.append_assoc];§List.Perm.append_right _ List.perm_append_comm
 ·unfold Srt;rw[List.pairwise_append];§⟨h.srt,s1,λx hx y hy=>h.low x hx y (.inr (List.mem_of_mem_take hy))⟩
 ·rcases List.mem_append.mp hx with k1 | k1
  ·§h.low x k1 y (hy.imp id List.mem_of_mem_drop)
  ·rcases hy with hy | hy
   ·§hk x k1 y hy
   ·§s3 x k1 y hy
theorem Out.done {o ra rb all:List Keyed} (h:Out o ra rb all) (he:ra=[]∨rb=[]):(o++ra++rb).Perm all∧Srt (o++ra++rb):=by
 ¶⟨h.perm,?_⟩;unfold Srt;rcases he with rfl | rfl
 ·rw[List.append_nil,List.pairwise_append];§⟨h.srt,h.sb,λx hx y hy=>h.low x hx y (.inr hy)⟩
 ·rw[List.append_nil,List.pairwise_append];§⟨h.srt,h.sa,λx hx y hy=>h.low x hx y (.inl hy)⟩
theorem Out.last {o ra rb all:List Keyed} (h:Out o ra rb all) (he:∀y∈rb,∀x∈ra,gm y≤gm x):(o++rb++ra).Perm all∧Srt (o++rb++ra):=by
 ¶⟨?_,?_⟩
 ·¶List.Perm.trans ?_ h.perm;rw[List.append_assoc,List.append_assoc];§List.Perm.append_left o List.perm_append_comm
 ·unfold Srt;rw[List.pairwise_append,List.pairwise_append];¶⟨⟨h.srt,h.sb,λx hx y hy=>h.low x hx y (.inr hy)⟩,h.sa,λx hx y hy=>?_⟩;rcases List.mem_append.mp hx with k | k
  ·§h.low x k y (.inl hy)
  ·§he x k y hy
structure Lk (st st':SortSt):Prop where
 kind:kindOf st'=kindOf st
 arr:arrOf st'=arrOf st
 pend:pendingOf st'=pendingOf st
 failed:failedOf st'=failedOf st
theorem Lk.refl (st:SortSt):Lk st st:=⟨rfl,rfl,rfl,rfl⟩
theorem Lk.trans {a b c:SortSt} (h:Lk a b) (g:Lk b c):Lk a c:=⟨g.kind.trans h.kind,g.arr.trans h.arr,g.pend.trans h.pend,g.failed.trans h.failed⟩
noncomputable def setG':Nat→StateT SortSt Sem Unit:=sortPriv% PySem.Builtin.setMinGallop
theorem Li (g:Nat):setG' g=modify λs=>SortSt.mk' (kindOf s) (arrOf s) (pendingOf s) g (failedOf s):=rfl
noncomputable def Mu:Array Keyed→Array Keyed→StateT SortSt Sem (Array Keyed):=sortPriv% PySem.Builtin.mergeLo
end gc
namespace gc
open PySem PyProof.Rows
variable [Rk]
theorem drop_cons {a:Array Keyed} {i:Nat} {x:Keyed} (e:a[i]?=some x):a.toList.drop i=x::a.toList.drop (i+1):=by
 ¤e':a.toList[i]?=some x:=by rw[Array.getElem?_toList];§e
 £⟨h,rfl⟩:=List.getElem?_eq_some_iff.mp e';§List.drop_eq_getElem_cons h
theorem zh {a:Array Keyed} {i:Nat} {x:Keyed} (e:a[i]?=some x):K a i=gm x:=by
 unfold K;rw[e];rfl
theorem pe {a:Array Keyed} {i:Nat} {x:Keyed} (h:x∈a.toList.drop i):∃j,i≤j∧j < a.size∧gm x=K a j:=by
 £⟨k,hk,e⟩:=List.getElem_of_mem h;rw[List.length_drop] at hk;¤hl:a.toList.length=a.size:=Array.length_toList;¶⟨i+k,¥,¥,?_⟩;¶(zh ?_).symm;rw[←Array.getElem?_toList,←e,List.getElem_drop];§List.getElem?_eq_getElem ¥
theorem o7 {a:Array Keyed} {i:Nat} {x:Keyed} (h:x∈a.toList.take i):∃j,j < i∧j < a.size∧gm x=K a j:=by
 £⟨k,hk,e⟩:=List.getElem_of_mem h;rw[List.length_take] at hk;¤hl:a.toList.length=a.size:=Array.length_toList;¶⟨k,¥,¥,?_⟩;¶(zh ?_).symm;rw[←Array.getElem?_toList,←e,List.getElem_take];§List.getElem?_eq_getElem ¥
theorem mem_mid {a:Array Keyed} {i k:Nat} {x:Keyed} (h:x∈(a.toList.drop i).take k):∃j,i≤j∧j < i+k∧j < a.size∧gm x=K a j:=by
 £⟨m,hm,e⟩:=List.getElem_of_mem h;rw[List.length_take,List.length_drop] at hm;¤hl:a.toList.length=a.size:=Array.length_toList;¶⟨i+m,¥,¥,¥,?_⟩;¶(zh ?_).symm;rw[←Array.getElem?_toList,←e,List.getElem_take,List.getElem_drop];§List.getElem?_eq_getElem ¥
theorem y3 {a:Array Keyed} (h:Seg a 0 a.size):Srt a.toList:=by
 unfold Srt;rw[List.pairwise_iff_getElem];¿i j hi hj hij;¤hl:a.toList.length=a.size:=Array.length_toList;¤e1:a[i]?=some a.toList[i]:=by rw[←Array.getElem?_toList];§List.getElem?_eq_getElem hi
 ¤e2:a[j]?=some a.toList[j]:=by rw[←Array.getElem?_toList];§List.getElem?_eq_getElem hj
 rw[←zh e1,←zh e2];§h i j ¥ ¥ ¥
theorem cx (a:Array Keyed) (i j:Nat):(a.extract i j).toList=(a.toList.drop i).take (j - i):=by
 rw[Array.toList_extract,List.extract_eq_take_drop]
def Inv (a b out:Array Keyed) (ia ib:Nat):Prop:=Out out.toList (a.toList.drop ia) (b.toList.drop ib) (a.toList++b.toList)
def Good (a b r:Array Keyed):Prop:=r.toList.Perm (a.toList++b.toList)∧Srt r.toList
section
variable {a b out:Array Keyed} {ia ib:Nat}
theorem Inv.start (ha:Seg a 0 a.size) (hb:Seg b 0 b.size):Inv a b #[] 0 0:=⟨List.Perm.refl _,List.Pairwise.nil,y3 ha,y3 hb,λx hx=>nomatch hx⟩
theorem Inv.as (h:Inv a b out ia ib) (hb:Seg b 0 b.size) (k:Nat) (hk:∀j,ia≤j→j < ia+k→K a j≤K b ib):Inv a b (out++a.extract ia (ia+k)) (ia+k) ib:=by
 ¤z:=Out.Mv h k λx hx y hy=>by
  £⟨j,h1,h2,h3,e⟩:=mem_mid hx;£⟨m,g1,g2,e2⟩:=pe hy;rw[e,e2];§Int.le_trans (hk j h1 h2) (hb ib m ¥ g1 g2)
 unfold Inv;rw[Array.toList_append,cx,show ia+k - ia=k by ¡,←List.drop_drop];§z
theorem Inv.bs (h:Inv a b out ia ib) (ha:Seg a 0 a.size) (k:Nat) (hk:∀j,ib≤j→j < ib+k→K b j≤K a ia):Inv a b (out++b.extract ib (ib+k)) ia (ib+k):=by
 ¤z:=Out.K5 h k λx hx y hy=>by
  £⟨j,h1,h2,h3,e⟩:=mem_mid hx;£⟨m,g1,g2,e2⟩:=pe hy;rw[e,e2];§Int.le_trans (hk j h1 h2) (ha ia m ¥ g1 g2)
 unfold Inv;rw[Array.toList_append,cx,show ib+k - ib=k by ¡,←List.drop_drop];§z
theorem Gn {a:Array Keyed} {i:Nat} {x:Keyed} (e:a[i]?=some x):out.push x=out++a.extract i (i+1):=by
 apply Array.toList_inj.mp
 rw[Array.toList_push,Array.toList_append,cx,drop_cons e,show i+1 - i=1 by ¡];rfl
theorem Inv.a1 (h:Inv a b out ia ib) (hb:Seg b 0 b.size) {x:Keyed} (e:a[ia]?=some x) (hk:K a ia≤K b ib):Inv a b (out.push x) (ia+1) ib:=by
 rw[Gn e];§h.as hb 1 λj h1 h2=>by
  have:j=ia:=by ¡
  subst this;§hk
theorem Inv.b1 (h:Inv a b out ia ib) (ha:Seg a 0 a.size) {x:Keyed} (e:b[ib]?=some x) (hk:K b ib≤K a ia):Inv a b (out.push x) ia (ib+1):=by
 rw[Gn e];§h.bs ha 1 λj h1 h2=>by
  have:j=ib:=by ¡
  subst this;§hk
theorem sm (a:Array Keyed) (i:Nat):(a.extract i a.size).toList=a.toList.drop i:=by
 rw[cx];§List.take_of_length_le (by rw[List.length_drop,Array.length_toList];¡)
theorem Inv.fin (h:Inv a b out ia ib) (e:ia=a.size∨ib=b.size):Good a b (out++a.extract ia a.size++b.extract ib b.size):=by
 unfold Good;rw[Array.toList_append,Array.toList_append,sm,sm];¶Out.done h (e.imp ?_ ?_)
 ·¿e;§List.drop_eq_nil_of_le (by rw[Array.length_toList];¡)
 ·¿e;§List.drop_eq_nil_of_le (by rw[Array.length_toList];¡)
theorem Inv.last (h:Inv a b out ia ib) (e:ia+1=a.size) (hl:∀j,j < b.size→K b j≤K a (a.size - 1)):Good a b (out++b.extract ib b.size++a.extract ia a.size):=by
 unfold Good;rw[Array.toList_append,Array.toList_append,sm,sm];¶Out.last h λy hy x hx=>?_;£⟨j,h1,h2,e1⟩:=pe hx;£⟨m,g1,g2,e2⟩:=pe hy;rw[e1,e2,show j=a.size - 1 by ¡];§hl m g2
end
section
variable {prog:Program} {w:World} {A:Around} {E:Value→Shared→Prop} {s:Shared} [LtR prog w A E s]
theorem bg {α:Type} {c:Prop} [Decidable c] {x y:StateT SortSt Sem α} {Q:α→SortSt→Prop} {st:SortSt} (h1:c→wpS (model prog w) A E s x Q st) (h2:¬c→wpS (model prog w) A E s y Q st):wpS (model prog w) A E s (if c then x else y) Q st:=by
 ¦h:c
 ·rw[if_pos h];§h1 h
 ·rw[if_neg h];§h2 h
theorem tm {st:SortSt} {g:Nat} {Q:Unit→SortSt→Prop} (h:∀st',Lk st st'→Q () st'):wpS (model prog w) A E s (setG' g) Q st:=by
 rw[Li];§wpS_modify (h _ ⟨rfl,rfl,rfl,rfl⟩)
theorem ax {st:SortSt} {arr:Array Keyed} {i:Nat} {Q:Keyed→SortSt→Prop} (hI:IntKeys arr) (hi:i < arr.size) (h:∀x q,arr[i]?=some (x,q)→Rk.P x→Rk.ρ x=K arr i→Q (x,q) st):wpS (model prog w) A E s (elem' arr i) Q st:=by
 £⟨x,q,e,h1,h2⟩:=y9 hI hi;§Gw e (h x q e h1 h2)
theorem Seg.from {a:Array Keyed} {i n:Nat} (h:Seg a 0 a.size) (e:i+n=a.size):Seg a i (i+n):=λx y h1 h2 h3=>h x y ¥ h2 ¥
theorem Fh {c:Int} {arr:Array Keyed} {i:Nat}:bey false c arr i=true↔K arr i≤c:=by
 unfold bey;rw[if_neg Bool.false_ne_true,Bool.not_eq_true',decide_eq_false_iff_not,Int.not_lt]
theorem vx {c:Int} {arr:Array Keyed} {i:Nat}:bey true c arr i=true↔K arr i < c:=by
 unfold bey;rw[if_pos rfl,decide_eq_true_iff]
theorem zu {c:Int} {arr:Array Keyed} {i:Nat}:bey false c arr i=false↔c < K arr i:=by
 unfold bey;rw[if_neg Bool.false_ne_true,Bool.not_eq_false',decide_eq_true_iff]
theorem ml {c:Int} {arr:Array Keyed} {i:Nat}:bey true c arr i=false↔c≤K arr i:=by
 unfold bey;rw[if_pos rfl,decide_eq_false_iff_not,Int.not_lt]
def Mid (a b:Array Keyed) (st:SortSt) (n:Nat) (r:Option (Array Keyed)) (o:Array Keyed) (i j:Nat) (st':SortSt):Prop:=
 Lk st st'∧((∃x,r=some x∧Good a b x)∨(r=none∧Inv a b o i j∧i+1 < a.size∧j < b.size∧n≤i+j))
theorem Ey {st:SortSt} {a b:Array Keyed} {Q:Array Keyed→SortSt→Prop} (hk:kindOf st=Rk.kd) (IA:IntKeys a) (IB:IntKeys b) (na:1≤a.size) (nb:1≤b.size) (sa:Seg a 0 a.size) (sb:Seg b 0 b.size)
  (hf:K b 0≤K a 0) (hl:∀j,j < b.size→K b j≤K a (a.size - 1))
  (h:∀r st',Lk st st'→Good a b r→Q r st'):wpS (model prog w) A E s (Mu a b) Q st:=by
 ¶wpS_bind (wpS_lift (wpAny_rule ⟨rfl,?_⟩));dsimp only;¶wpS_bind (ax IB ¥ λt0 p0 e0 mP0 mR0=>?_);¤hI:Inv a b #[(t0,p0)] 0 1:=(Inv.start sa sb).b1 sa e0 hf;¦z1:1=b.size
 ·rw[if_pos (by simpa using z1)];§wpS_pure (h _ _ (Lk.refl _) (hI.fin (.inr z1)))
 rw[if_neg (by simpa using z1)];¦z2:0+1=a.size
 ·rw[if_pos (by simpa using z2)];§wpS_pure (h _ _ (Lk.refl _) (hI.last z2 hl))
 rw[if_neg (by simpa using z2)];¶wpS_bind (wpS_get ?_);¶wpS_bind (wpS_mono (wpS_forRange (I:=λx c st'=>∃o i j g,c=(none,o,i,j,g)∧Lk st st'∧Inv a b o i j∧i+1 < a.size∧j < b.size∧x≤i+j)
  (Q:=λc st'=>Lk st st'∧∃x,c.1=some x∧Good a b x) ?step ?fin ⟨_,_,_,_,rfl,Lk.refl _,hI,¥,¥,¥⟩) ?post)
 case post=>
  rintro c st' ⟨l,x,e,g⟩;rw[e];§wpS_pure (h _ _ l g)
 case fin=>
  rintro c st' ⟨o,i,j,g,rfl,l,_,h1,h2,h3⟩;exfalso
  ¡
 case step=>
  rintro x c st1 _ hx ⟨out,ia,ib,g,rfl,l1,hI,ha,hb,hn⟩;dsimp only;¶wpS_bind (wpS_mono (wpS_forRange (I:=λy c st'=>∃o i j ac bc,c=(none,o,i,j,ac,bc)∧Lk st st'∧Inv a b o i j∧i+1 < a.size∧j < b.size∧ia+ib+y≤i+j)
   (Q:=λc st'=>∃r o i j ac bc,c=(r,o,i,j,ac,bc)∧Mid a b st (ia+ib+1) r o i j st') ?step1 ?fin1 ⟨_,_,_,_,_,rfl,l1,hI,ha,hb,¥⟩) ?post1)
  case fin1=>
   rintro c st' ⟨o,i,j,ac,bc,rfl,l,_,h1,h2,h3⟩;exfalso
   ¡
  case step1=>
   rintro y c st2 _ hy ⟨out,ia2,ib2,ac,bc,rfl,l2,hI,ha2,hb2,hn2⟩;dsimp only;¶wpS_bind (ax IB hb2 λt1 p1 e1 mP1 mR1=>?_);¶wpS_bind (ax IA ¥ λt2 p2 e2 mP2 mR2=>?_);¶wpS_bind (Ge mP1 mR1 mP2 mR2 (l2.kind.trans hk) ?_);dsimp only;¦hw:K b ib2 < K a ia2
   ·rw[if_pos (by simpa using hw)];¶wpS_bind (ax IB hb2 λt3 p3 e3 mP3 mR3=>?_);¤hI2:=hI.b1 sa e3 (Int.le_of_lt hw);¦z3:ib2+1=b.size
    ·rw[if_pos (by simpa using z3)];§wpS_pure ⟨_,_,_,_,_,_,rfl,l2,.inl ⟨_,rfl,hI2.fin (.inr z3)⟩⟩
    ·rw[if_neg (by simpa using z3)];split
     ·§wpS_pure ⟨_,_,_,_,_,_,rfl,l2,.inr ⟨rfl,hI2,¥,¥,¥⟩⟩
     ·§wpS_pure ⟨_,_,_,_,_,rfl,l2,hI2,¥,¥,¥⟩
   ·rw[if_neg (by simpa using hw)];¶wpS_bind (ax IA ¥ λt3 p3 e3 mP3 mR3=>?_);¤hI2:=hI.a1 sb e3 (Int.not_lt.mp hw);¦z3:ia2+1+1=a.size
    ·rw[if_pos (by simpa using z3)];§wpS_pure ⟨_,_,_,_,_,_,rfl,l2,.inl ⟨_,rfl,hI2.last z3 hl⟩⟩
    ·rw[if_neg (by simpa using z3)];split
     ·§wpS_pure ⟨_,_,_,_,_,_,rfl,l2,.inr ⟨rfl,hI2,¥,¥,¥⟩⟩
     ·§wpS_pure ⟨_,_,_,_,_,rfl,l2,hI2,¥,¥,¥⟩
  case post1=>
   rintro c st2 ⟨r,out2,ia2,ib2,ac,bc,rfl,l2,⟨x2,rfl,hg⟩ | ⟨rfl,hI2,ha2,hb2,hn2⟩⟩
   ·§wpS_pure ⟨l2,x2,rfl,hg⟩
   dsimp only;¶wpS_bind (wpS_lift (wpAny_rule ⟨rfl,?_⟩));¶wpS_bind (wpS_mono (wpS_forRange (I:=λy c st'=>∃o i j g ac bc,c=(none,o,i,j,g,ac,bc)∧Lk st st'∧Inv a b o i j∧i+1 < a.size∧j < b.size∧ia2+ib2+y≤i+j)
    (Q:=λc st'=>∃r o i j g ac bc,c=(r,o,i,j,g,ac,bc)∧Mid a b st (ia2+ib2) r o i j st') ?step2 ?fin2 ⟨_,_,_,_,_,_,rfl,l2,hI2,ha2,hb2,¥⟩) ?post2)
   case fin2=>
    rintro c st' ⟨o,i,j,g,ac,bc,rfl,l,_,h1,h2,h3⟩;exfalso
    ¡
   case post2=>
    rintro c st' ⟨r,o,i,j,g,ac,bc,rfl,l,⟨x2,rfl,hg⟩ | ⟨rfl,hI4,ha4,hb4,hn4⟩⟩
    ·§wpS_pure ⟨l,x2,rfl,hg⟩
    ·dsimp only;§wpS_bind (tm λst5 l5=>wpS_pure ⟨_,_,_,_,rfl,l.trans l5,hI4,ha4,hb4,¥⟩)
   case step2=>
    rintro y c st3 _ hy ⟨out,ia,ib,g,ac,bc,rfl,l3,hI,ha3,hb3,hn3⟩;dsimp only;¶bg (λ_=>?_) (λ_=>?_);all_goals
     ¶wpS_bind (tm λst2 l2=>?_);¤l2:=l3.trans l2;¶wpS_bind (ax IB hb3 λt0 q0 e0 mP0 mR0=>?_);¶wpS_bind (fk mP0 mR0 (l2.kind.trans hk) IA ¥ ¥ (Seg.from sa ¥) λk h1 h2 h3=>?_);dsimp only;¦k0:k > 0
     ·rw[if_pos k0];¤hI2:=hI.as sb k λj g1 g2=>by
       have:=Fh.mp (h2 (j - ia) ¥);rwa [show ia+(j - ia)=j by ¡] at this
      ¦z1:ia+k+1=a.size
      ·rw[if_pos (by simpa using z1)];§wpS_pure ⟨_,_,_,_,_,_,_,rfl,l2,.inl ⟨_,rfl,hI2.last z1 hl⟩⟩
      rw[if_neg (by simpa using z1)];¦z2:ia+k=a.size
      ·rw[if_pos (by simpa using z2)];§wpS_pure ⟨_,_,_,_,_,_,_,rfl,l2,.inl ⟨_,rfl,hI2.fin (.inl z2)⟩⟩
      rw[if_neg (by simpa using z2)];¤hle:=Int.le_of_lt (zu.mp (h3 k ¥ ¥));¶wpS_bind (ax IB ¥ λt1 q1 e1 mP1 mR1=>?_);¤hI3:=hI2.b1 sa e1 hle;¦z3:ib+1=b.size
      ·rw[if_pos (by simpa using z3)];§wpS_pure ⟨_,_,_,_,_,_,_,rfl,l2,.inl ⟨_,rfl,hI3.fin (.inr z3)⟩⟩
      ·rw[if_neg (by simpa using z3)];¶wpS_bind (ax IA ¥ λt2 q2 e2 mP2 mR2=>?_);¶wpS_bind (fk mP2 mR2 (l2.kind.trans hk) IB ¥ ¥ (Seg.from sb ¥) λk2 g1 g2 g3=>?_);dsimp only;¦k20:k2 > 0
       ·rw[if_pos k20];¤hI3:=hI3.bs sa k2 λj h1 h2=>by
         have:=vx.mp (g2 (j - (ib+1)) ¥);rw[show ib+1+(j - (ib+1))=j by ¡] at this;¡
        ¦z4:ib+1+k2=b.size
        ·rw[if_pos (by simpa using z4)];§wpS_pure ⟨_,_,_,_,_,_,_,rfl,l2,.inl ⟨_,rfl,hI3.fin (.inr z4)⟩⟩
        ·rw[if_neg (by simpa using z4)];¤hge:=ml.mp (g3 k2 ¥ ¥);¶wpS_bind (ax IA ¥ λt3 q3 e3 mP3 mR3=>?_);¤hI4:=hI3.a1 sb e3 hge;¶bg (λz5=>?_) (λz5=>?_)
         ·§wpS_pure ⟨_,_,_,_,_,_,_,rfl,l2,.inl ⟨_,rfl,hI4.last (eq_of_beq z5) hl⟩⟩
         ·rw[beq_iff_eq] at z5;¶bg (λ_=>?_) (λ_=>?_)
          ·§wpS_pure ⟨_,_,_,_,_,_,_,rfl,l2,.inr ⟨rfl,hI4,¥,¥,¥⟩⟩
          ·§wpS_pure ⟨_,_,_,_,_,_,rfl,l2,hI4,¥,¥,¥⟩
       ·rw[if_neg k20];£rfl:k2=0:=by ¡
        ¤hge:=ml.mp (g3 0 ¥ ¥);¶wpS_bind (ax IA ¥ λt3 q3 e3 mP3 mR3=>?_);¤hI4:=hI3.a1 sb e3 hge;¶bg (λz5=>?_) (λz5=>?_)
        ·§wpS_pure ⟨_,_,_,_,_,_,_,rfl,l2,.inl ⟨_,rfl,hI4.last (eq_of_beq z5) hl⟩⟩
        ·rw[beq_iff_eq] at z5;¶bg (λ_=>?_) (λ_=>?_)
         ·§wpS_pure ⟨_,_,_,_,_,_,_,rfl,l2,.inr ⟨rfl,hI4,¥,¥,¥⟩⟩
         ·§wpS_pure ⟨_,_,_,_,_,_,rfl,l2,hI4,¥,¥,¥⟩
     ·rw[if_neg k0];£rfl:k=0:=by ¡
      ¤hI2:=hI;¤hle:=Int.le_of_lt (zu.mp (h3 0 ¥ ¥));¶wpS_bind (ax IB ¥ λt1 q1 e1 mP1 mR1=>?_);¤hI3:=hI2.b1 sa e1 hle;¦z3:ib+1=b.size
      ·rw[if_pos (by simpa using z3)];§wpS_pure ⟨_,_,_,_,_,_,_,rfl,l2,.inl ⟨_,rfl,hI3.fin (.inr z3)⟩⟩
      ·rw[if_neg (by simpa using z3)];¶wpS_bind (ax IA ¥ λt2 q2 e2 mP2 mR2=>?_);¶wpS_bind (fk mP2 mR2 (l2.kind.trans hk) IB ¥ ¥ (Seg.from sb ¥) λk2 g1 g2 g3=>?_);dsimp only;¦k20:k2 > 0
       ·rw[if_pos k20];¤hI3:=hI3.bs sa k2 λj h1 h2=>by
         have:=vx.mp (g2 (j - (ib+1)) ¥);rw[show ib+1+(j - (ib+1))=j by ¡] at this;¡
        ¦z4:ib+1+k2=b.size
        ·rw[if_pos (by simpa using z4)];§wpS_pure ⟨_,_,_,_,_,_,_,rfl,l2,.inl ⟨_,rfl,hI3.fin (.inr z4)⟩⟩
        ·rw[if_neg (by simpa using z4)];¤hge:=ml.mp (g3 k2 ¥ ¥);¶wpS_bind (ax IA ¥ λt3 q3 e3 mP3 mR3=>?_);¤hI4:=hI3.a1 sb e3 hge;¶bg (λz5=>?_) (λz5=>?_)
         ·§wpS_pure ⟨_,_,_,_,_,_,_,rfl,l2,.inl ⟨_,rfl,hI4.last (eq_of_beq z5) hl⟩⟩
         ·rw[beq_iff_eq] at z5;¶bg (λ_=>?_) (λ_=>?_)
          ·§wpS_pure ⟨_,_,_,_,_,_,_,rfl,l2,.inr ⟨rfl,hI4,¥,¥,¥⟩⟩
          ·§wpS_pure ⟨_,_,_,_,_,_,rfl,l2,hI4,¥,¥,¥⟩
       ·rw[if_neg k20];£rfl:k2=0:=by ¡
        ¤hge:=ml.mp (g3 0 ¥ ¥);¶wpS_bind (ax IA ¥ λt3 q3 e3 mP3 mR3=>?_);¤hI4:=hI3.a1 sb e3 hge;¶bg (λz5=>?_) (λz5=>?_)
        ·§wpS_pure ⟨_,_,_,_,_,_,_,rfl,l2,.inl ⟨_,rfl,hI4.last (eq_of_beq z5) hl⟩⟩
        ·rw[beq_iff_eq] at z5;¶bg (λ_=>?_) (λ_=>?_)
         ·§wpS_pure ⟨_,_,_,_,_,_,_,rfl,l2,.inr ⟨rfl,hI4,¥,¥,¥⟩⟩
         ·§wpS_pure ⟨_,_,_,_,_,_,rfl,l2,hI4,¥,¥,¥⟩
end
end gc
namespace gc
open PySem PyProof.Rows
variable [Rk]
noncomputable def Mi:Array Keyed→Array Keyed→StateT SortSt Sem (Array Keyed):=sortPriv% PySem.Builtin.mergeHi
structure Ouh (o ra rb all:List Keyed):Prop where
 perm:(ra++rb++o).Perm all
 srt:Srt o
 sa:Srt ra
 sb:Srt rb
 high:∀x∈o,∀y,y∈ra∨y∈rb→gm y≤gm x
theorem Ouh.Mv {o ra rb all:List Keyed} (h:Ouh o ra rb all) (k:Nat) (hk:∀x∈ra.drop k,∀y∈rb,gm y≤gm x):Ouh (ra.drop k++o) (ra.take k) rb all:=by
 £⟨s1,s2,s3⟩:=h.sa.split k;¶⟨?_,?_,s1,h.sb,λx hx y hy=>?_⟩
 ·¶List.Perm.trans ?_ h.perm;conv=>rhs;rw[←List.take_append_drop k ra]
  rw[←List.append_assoc];¶List.Perm.append_right o ?_;rw[List.append_assoc,List.append_assoc];§List.Perm.append_left _ List.perm_append_comm
 ·unfold Srt;rw[List.pairwise_append];§⟨s2,h.srt,λx hx y hy=>h.high y hy x (.inl (List.mem_of_mem_drop hx))⟩
 ·rcases List.mem_append.mp hx with k1 | k1
  ·rcases hy with hy | hy
   ·§s3 y hy x k1
   ·§hk x k1 y hy
  ·§h.high x k1 y (hy.imp List.mem_of_mem_take id)
theorem Ouh.K5 {o ra rb all:List Keyed} (h:Ouh o ra rb all) (k:Nat) (hk:∀x∈rb.drop k,∀y∈ra,gm y≤gm x):Ouh (rb.drop k++o) ra (rb.take k) all:=by
 £⟨s1,s2,s3⟩:=h.sb.split k;¶⟨?_,?_,h.sa,s1,λx hx y hy=>?_⟩
 ·¶List.Perm.trans ?_ h.perm;conv=>rhs;rw[←List.take_append_drop k rb]
  rw[←List.append_assoc,←List.append_assoc]
 ·unfold Srt;rw[List.pairwise_append];§⟨s2,h.srt,λx hx y hy=>h.high y hy x (.inr (List.mem_of_mem_drop hx))⟩
 ·rcases List.mem_append.mp hx with k1 | k1
  ·rcases hy with hy | hy
   ·§hk x k1 y hy
   ·§s3 y hy x k1
  ·§h.high x k1 y (hy.imp id List.mem_of_mem_take)
theorem Ouh.done {o ra rb all:List Keyed} (h:Ouh o ra rb all) (he:ra=[]∨rb=[]):(ra++rb++o).Perm all∧Srt (ra++rb++o):=by
 ¶⟨h.perm,?_⟩;unfold Srt;rcases he with rfl | rfl
 ·rw[List.nil_append,List.pairwise_append];§⟨h.sb,h.srt,λx hx y hy=>h.high y hy x (.inr hx)⟩
 ·rw[List.append_nil,List.pairwise_append];§⟨h.sa,h.srt,λx hx y hy=>h.high y hy x (.inl hx)⟩
theorem Ouh.first {o ra rb all:List Keyed} (h:Ouh o ra rb all) (he:∀y∈rb,∀x∈ra,gm y≤gm x):(rb++ra++o).Perm all∧Srt (rb++ra++o):=by
 ¶⟨?_,?_⟩
 ·¶List.Perm.trans ?_ h.perm;§List.Perm.append_right o List.perm_append_comm
 ·unfold Srt;rw[List.pairwise_append,List.pairwise_append];¶⟨⟨h.sb,h.sa,he⟩,h.srt,λx hx y hy=>?_⟩;rcases List.mem_append.mp hx with k | k
  ·§h.high y hy x (.inr k)
  ·§h.high y hy x (.inl k)
def gg (a b out:Array Keyed) (na nb:Nat):Prop:=Ouh out.toList.reverse (a.toList.take na) (b.toList.take nb) (a.toList++b.toList)
theorem Fs {a:Array Keyed} {i k:Nat} {x:Keyed} (h:x∈(a.toList.take k).drop i):∃j,i≤j∧j < k∧j < a.size∧gm x=K a j:=by
 £⟨m,hm,e⟩:=List.getElem_of_mem h;rw[List.length_drop,List.length_take] at hm;¤hl:a.toList.length=a.size:=Array.length_toList;¶⟨i+m,¥,¥,¥,?_⟩;¶(zh ?_).symm;rw[←Array.getElem?_toList,←e,List.getElem_drop,List.getElem_take];§List.getElem?_eq_getElem ¥
theorem Gx (a:Array Keyed) (i k:Nat):(a.extract i k).toList=(a.toList.take k).drop i:=by
 rw[cx,List.drop_take]
section
variable {a b out:Array Keyed} {na nb:Nat}
theorem gg.start (ha:Seg a 0 a.size) (hb:Seg b 0 b.size):gg a b #[] a.size b.size:=by
 ¤e1:a.toList.take a.size=a.toList:=List.take_of_length_le (by rw[Array.length_toList];¡);¤e2:b.toList.take b.size=b.toList:=List.take_of_length_le (by rw[Array.length_toList];¡);unfold gg;rw[e1,e2];§⟨by show (a.toList++b.toList++[]).Perm _;rw[List.append_nil],List.Pairwise.nil,y3 ha,y3 hb,λx hx=>nomatch hx⟩
theorem gg.as (h:gg a b out na nb) (hb:Seg b 0 b.size) (hnb:1≤nb) (hnb2:nb≤b.size) (k:Nat) (hkn:k≤na) (hk:∀j,k≤j→j < na→K b (nb - 1)≤K a j):gg a b (out++(a.extract k na).reverse) k nb:=by
 ¤z:=Ouh.Mv h k λx hx y hy=>by
  £⟨j,h1,h2,h3,e⟩:=Fs hx;£⟨m,g1,g2,e2⟩:=o7 hy;rw[e,e2];§Int.le_trans (hb m (nb - 1) ¥ ¥ ¥) (hk j h1 h2)
 unfold gg;rw[Array.toList_append,Array.toList_reverse,List.reverse_append,List.reverse_reverse,Gx];rw[List.take_take,show min k na=k by ¡] at z;§z
theorem gg.bs (h:gg a b out na nb) (ha:Seg a 0 a.size) (hna:1≤na) (hna2:na≤a.size) (k:Nat) (hkn:k≤nb) (hk:∀j,k≤j→j < nb→K a (na - 1)≤K b j):gg a b (out++(b.extract k nb).reverse) na k:=by
 ¤z:=Ouh.K5 h k λx hx y hy=>by
  £⟨j,h1,h2,h3,e⟩:=Fs hx;£⟨m,g1,g2,e2⟩:=o7 hy;rw[e,e2];§Int.le_trans (ha m (na - 1) ¥ ¥ ¥) (hk j h1 h2)
 unfold gg;rw[Array.toList_append,Array.toList_reverse,List.reverse_append,List.reverse_reverse,Gx];rw[List.take_take,show min k nb=k by ¡] at z;§z
theorem Bm {a:Array Keyed} {i:Nat} {x:Keyed} (hi:1≤i) (e:a[i - 1]?=some x):out.push x=out++(a.extract (i - 1) i).reverse:=by
 apply Array.toList_inj.mp
 rw[Array.toList_push,Array.toList_append,Array.toList_reverse,cx,drop_cons e,show i - (i - 1)=1 by ¡];rfl
theorem gg.a1 (h:gg a b out na nb) (hb:Seg b 0 b.size) (hnb:1≤nb) (hnb2:nb≤b.size) {x:Keyed} (hna:1≤na) (e:a[na - 1]?=some x) (hk:K b (nb - 1)≤K a (na - 1)):gg a b (out.push x) (na - 1) nb:=by
 rw[Bm hna e];§h.as hb hnb hnb2 _ ¥ λj h1 h2=>by
  have:j=na - 1:=by ¡
  subst this;§hk
theorem gg.b1 (h:gg a b out na nb) (ha:Seg a 0 a.size) (hna:1≤na) (hna2:na≤a.size) {x:Keyed} (hnb:1≤nb) (e:b[nb - 1]?=some x) (hk:K a (na - 1)≤K b (nb - 1)):gg a b (out.push x) na (nb - 1):=by
 rw[Bm hnb e];§h.bs ha hna hna2 _ ¥ λj h1 h2=>by
  have:j=nb - 1:=by ¡
  subst this;§hk
theorem ky (a:Array Keyed) (i:Nat):(a.extract 0 i).toList=a.toList.take i:=by
 rw[cx];rfl
theorem gg.fin (h:gg a b out na nb) (e:na=0∨nb=0):Good a b (a.extract 0 na++b.extract 0 nb++out.reverse):=by
 unfold Good;rw[Array.toList_append,Array.toList_append,ky,ky,Array.toList_reverse];¶Ouh.done h (e.imp ?_ ?_)
 ·rintro rfl;rfl
 ·rintro rfl;rfl
theorem gg.first (h:gg a b out na nb) (e:nb=1) (hl:∀j,j < a.size→K b 0≤K a j):Good a b (b.extract 0 nb++a.extract 0 na++out.reverse):=by
 unfold Good;rw[Array.toList_append,Array.toList_append,ky,ky,Array.toList_reverse];¶Ouh.first h λy hy x hx=>?_
 £⟨j,h1,h2,e1⟩:=o7 hx;£⟨m,g1,g2,e2⟩:=o7 hy;rw[e1,e2,show m=0 by ¡];§hl j h2
end
section
variable {prog:Program} {w:World} {A:Around} {E:Value→Shared→Prop} {s:Shared} [LtR prog w A E s]
def MidH (a b:Array Keyed) (st:SortSt) (n:Nat) (r:Option (Array Keyed)) (o:Array Keyed) (i j:Nat) (st':SortSt):Prop:=
 Lk st st'∧((∃x,r=some x∧Good a b x)∨(r=none∧gg a b o i j∧1≤i∧i≤a.size∧2≤j∧j≤b.size∧i+j≤n))
theorem Seg.to {a:Array Keyed} {n:Nat} (h:Seg a 0 a.size) (e:n≤a.size):Seg a 0 (0+n):=λx y h1 h2 h3=>h x y ¥ h2 ¥
theorem Es {st:SortSt} {a b:Array Keyed} {Q:Array Keyed→SortSt→Prop} (hk:kindOf st=Rk.kd) (IA:IntKeys a) (IB:IntKeys b) (na:1≤a.size) (nb:1≤b.size) (sa:Seg a 0 a.size) (sb:Seg b 0 b.size)
  (hf:K b 0≤K a 0) (hl:∀j,j < b.size→K b j≤K a (a.size - 1))
  (h:∀r st',Lk st st'→Good a b r→Q r st'):wpS (model prog w) A E s (Mi a b) Q st:=by
 ¤hf':∀j,j < a.size→K b 0≤K a j:=λj hj=>Int.le_trans hf (sa 0 j ¥ ¥ hj);¶wpS_bind (wpS_lift (wpAny_rule ⟨rfl,?_⟩));dsimp only;¶wpS_bind (ax IA ¥ λt0 p0 e0 mP0 mR0=>?_);¤hI:gg a b #[(t0,p0)] (a.size - 1) b.size:=(gg.start sa sb).a1 sb ¥ ¥ ¥ e0 (hl (b.size - 1) ¥);¦z1:a.size - 1=0
 ·rw[if_pos (by simpa using z1)];§wpS_pure (h _ _ (Lk.refl _) (hI.fin (.inl z1)))
 rw[if_neg (by simpa using z1)];¦z2:b.size=1
 ·rw[if_pos (by simpa using z2)];§wpS_pure (h _ _ (Lk.refl _) (hI.first z2 hf'))
 rw[if_neg (by simpa using z2)];¶wpS_bind (wpS_get ?_);¶wpS_bind (wpS_mono (wpS_forRange (I:=λx c st'=>∃o i j g,c=(none,i,j,o,g)∧Lk st st'∧gg a b o i j∧1≤i∧i≤a.size∧2≤j∧j≤b.size∧i+j+x≤a.size+b.size)
  (Q:=λc st'=>Lk st st'∧∃x,c.1=some x∧Good a b x) ?step ?fin ?init) ?post)
 case init=>§⟨_,_,_,_,rfl,Lk.refl _,hI,¥,¥,¥,¥,¥⟩
 case post=>
  rintro c st' ⟨l,x,e,g⟩;rw[e];§wpS_pure (h _ _ l g)
 case fin=>
  rintro c st' ⟨o,i,j,g,rfl,l,_,h1,h2,h3,h4,h5⟩;exfalso
  ¡
 case step=>
  rintro x c st1 _ hx ⟨out,na,nb,g,rfl,l1,hI,ha,ha',hb,hb',hn⟩;dsimp only;¶wpS_bind (wpS_mono (wpS_forRange (I:=λy c st'=>∃o i j ac bc,c=(none,i,j,o,ac,bc)∧Lk st st'∧gg a b o i j∧1≤i∧i≤a.size∧2≤j∧j≤b.size∧i+j+y≤na+nb)
   (Q:=λc st'=>∃r o i j ac bc,c=(r,i,j,o,ac,bc)∧MidH a b st (na+nb - 1) r o i j st') ?step1 ?fin1 ⟨_,_,_,_,_,rfl,l1,hI,ha,ha',hb,hb',¥⟩) ?post1)
  case fin1=>
   rintro c st' ⟨o,i,j,ac,bc,rfl,l,_,h1,h2,h3,h4,h5⟩;exfalso
   ¡
  case step1=>
   rintro y c st2 _ hy ⟨out,na2,nb2,ac,bc,rfl,l2,hI,ha2,ha2',hb2,hb2',hn2⟩;dsimp only;¶wpS_bind (ax IB ¥ λt1 p1 e1 mP1 mR1=>?_);¶wpS_bind (ax IA ¥ λt2 p2 e2 mP2 mR2=>?_);¶wpS_bind (Ge mP1 mR1 mP2 mR2 (l2.kind.trans hk) ?_);dsimp only;¦hw:K b (nb2 - 1) < K a (na2 - 1)
   ·rw[if_pos (by simpa using hw)];¶wpS_bind (ax IA ¥ λt3 p3 e3 mP3 mR3=>?_);¤hI2:=hI.a1 sb ¥ ¥ ¥ e3 (Int.le_of_lt hw);¶bg (λz3=>?_) (λz3=>?_)
    ·§wpS_pure ⟨_,_,_,_,_,_,rfl,l2,.inl ⟨_,rfl,hI2.fin (.inl (eq_of_beq z3))⟩⟩
    ·rw[beq_iff_eq] at z3;¶bg (λ_=>?_) (λ_=>?_)
     ·§wpS_pure ⟨_,_,_,_,_,_,rfl,l2,.inr ⟨rfl,hI2,¥,¥,¥,¥,¥⟩⟩
     ·§wpS_pure ⟨_,_,_,_,_,rfl,l2,hI2,¥,¥,¥,¥,¥⟩
   ·rw[if_neg (by simpa using hw)];¶wpS_bind (ax IB ¥ λt3 p3 e3 mP3 mR3=>?_);¤hI2:=hI.b1 sa ¥ ¥ ¥ e3 (Int.not_lt.mp hw);¶bg (λz3=>?_) (λz3=>?_)
    ·§wpS_pure ⟨_,_,_,_,_,_,rfl,l2,.inl ⟨_,rfl,hI2.first (eq_of_beq z3) hf'⟩⟩
    ·rw[beq_iff_eq] at z3;¶bg (λ_=>?_) (λ_=>?_)
     ·§wpS_pure ⟨_,_,_,_,_,_,rfl,l2,.inr ⟨rfl,hI2,¥,¥,¥,¥,¥⟩⟩
     ·§wpS_pure ⟨_,_,_,_,_,rfl,l2,hI2,¥,¥,¥,¥,¥⟩
  case post1=>
   rintro c st2 ⟨r,out2,na2,nb2,ac,bc,rfl,l2,⟨x2,rfl,hg⟩ | ⟨rfl,hI2,ha2,ha2',hb2,hb2',hn2⟩⟩
   ·§wpS_pure ⟨l2,x2,rfl,hg⟩
   dsimp only;¶wpS_bind (wpS_lift (wpAny_rule ⟨rfl,?_⟩));¶wpS_bind (wpS_mono (wpS_forRange (I:=λy c st'=>∃o i j g ac bc,c=(none,i,j,o,g,ac,bc)∧Lk st st'∧gg a b o i j∧1≤i∧i≤a.size∧2≤j∧j≤b.size∧i+j+y≤na2+nb2)
    (Q:=λc st'=>∃r o i j g ac bc,c=(r,i,j,o,g,ac,bc)∧MidH a b st (na2+nb2) r o i j st') ?step2 ?fin2 ⟨_,_,_,_,_,_,rfl,l2,hI2,ha2,ha2',hb2,hb2',¥⟩) ?post2)
   case fin2=>
    rintro c st' ⟨o,i,j,g,ac,bc,rfl,l,_,h1,h2,h3,h4,h5⟩;exfalso
    ¡
   case post2=>
    rintro c st' ⟨r,o,i,j,g,ac,bc,rfl,l,⟨x2,rfl,hg⟩ | ⟨rfl,hI4,ha4,ha4',hb4,hb4',hn4⟩⟩
    ·§wpS_pure ⟨l,x2,rfl,hg⟩
    ·dsimp only;§wpS_bind (tm λst5 l5=>wpS_pure ⟨_,_,_,_,rfl,l.trans l5,hI4,ha4,ha4',hb4,hb4',¥⟩)
   case step2=>
    rintro y c st3 _ hy ⟨out,na,nb,g,ac,bc,rfl,l3,hI,ha3,ha3',hb3,hb3',hn3⟩;dsimp only;¶bg (λ_=>?_) (λ_=>?_);all_goals
     ¶wpS_bind (tm λst2 l2=>?_);¤l2:=l3.trans l2;¶wpS_bind (ax IB ¥ λt0 q0 e0 mP0 mR0=>?_);¶wpS_bind (fk mP0 mR0 (l2.kind.trans hk) IA ¥ ¥ (Seg.to sa ¥) λk h1 h2 h3=>?_);dsimp only;¦k0:na - k > 0
     ·rw[if_pos k0];¤hI2:=hI.as sb ¥ ¥ k h1 λj g1 g2=>by
       have:=zu.mp (h3 j ¥ ¥);rw[Nat.zero_add] at this;§Int.le_of_lt this
      ¶bg (λz1=>?_) (λz1=>?_)
      ·§wpS_pure ⟨_,_,_,_,_,_,_,rfl,l2,.inl ⟨_,rfl,hI2.fin (.inl (eq_of_beq z1))⟩⟩
      rw[beq_iff_eq] at z1;¤hle:=Fh.mp (h2 (k - 1) ¥);rw[Nat.zero_add] at hle;¶wpS_bind (ax IB ¥ λt1 q1 e1 mP1 mR1=>?_);¤hI3:=hI2.b1 sa ¥ ¥ ¥ e1 hle;¶bg (λz3=>?_) (λz3=>?_)
      ·§wpS_pure ⟨_,_,_,_,_,_,_,rfl,l2,.inl ⟨_,rfl,hI3.first (eq_of_beq z3) hf'⟩⟩
      ·rw[beq_iff_eq] at z3;¶wpS_bind (ax IA ¥ λt2 q2 e2 mP2 mR2=>?_);¶wpS_bind (fk mP2 mR2 (l2.kind.trans hk) IB ¥ ¥ (Seg.to sb ¥) λk2 g1 g2 g3=>?_);dsimp only;¦k20:nb - 1 - k2 > 0
       ·rw[if_pos k20];¤hI3:=hI3.bs sa ¥ ¥ k2 g1 λj h1 h2=>by
         have:=ml.mp (g3 j ¥ ¥);rwa [Nat.zero_add] at this
        ¶bg (λz4=>?_) (λz4=>?_)
        ·§wpS_pure ⟨_,_,_,_,_,_,_,rfl,l2,.inl ⟨_,rfl,hI3.first (eq_of_beq z4) hf'⟩⟩
        ·rw[beq_iff_eq] at z4;¶bg (λz5=>?_) (λz5=>?_)
         ·§wpS_pure ⟨_,_,_,_,_,_,_,rfl,l2,.inl ⟨_,rfl,hI3.fin (.inr (eq_of_beq z5))⟩⟩
         ·rw[beq_iff_eq] at z5;¤hge:=Int.le_of_lt (vx.mp (g2 (k2 - 1) ¥));rw[Nat.zero_add] at hge;¶wpS_bind (ax IA ¥ λt3 q3 e3 mP3 mR3=>?_);¤hI4:=hI3.a1 sb ¥ ¥ ¥ e3 hge;¶bg (λz5=>?_) (λz5=>?_)
          ·§wpS_pure ⟨_,_,_,_,_,_,_,rfl,l2,.inl ⟨_,rfl,hI4.fin (.inl (eq_of_beq z5))⟩⟩
          ·rw[beq_iff_eq] at z5;¶bg (λ_=>?_) (λ_=>?_)
           ·§wpS_pure ⟨_,_,_,_,_,_,_,rfl,l2,.inr ⟨rfl,hI4,¥,¥,¥,¥,¥⟩⟩
           ·§wpS_pure ⟨_,_,_,_,_,_,rfl,l2,hI4,¥,¥,¥,¥,¥⟩
       ·rw[if_neg k20];£rfl:k2=nb - 1:=by ¡
        ¤hge:=Int.le_of_lt (vx.mp (g2 (nb - 1 - 1) ¥));rw[Nat.zero_add] at hge;¶wpS_bind (ax IA ¥ λt3 q3 e3 mP3 mR3=>?_);¤hI4:=hI3.a1 sb ¥ ¥ ¥ e3 hge;¶bg (λz5=>?_) (λz5=>?_)
        ·§wpS_pure ⟨_,_,_,_,_,_,_,rfl,l2,.inl ⟨_,rfl,hI4.fin (.inl (eq_of_beq z5))⟩⟩
        ·rw[beq_iff_eq] at z5;¶bg (λ_=>?_) (λ_=>?_)
         ·§wpS_pure ⟨_,_,_,_,_,_,_,rfl,l2,.inr ⟨rfl,hI4,¥,¥,¥,¥,¥⟩⟩
         ·§wpS_pure ⟨_,_,_,_,_,_,rfl,l2,hI4,¥,¥,¥,¥,¥⟩
     ·rw[if_neg k0];£rfl:k=na:=by ¡
      ¤hI2:=hI;¤hle:=Fh.mp (h2 (k - 1) ¥);rw[Nat.zero_add] at hle;¶wpS_bind (ax IB ¥ λt1 q1 e1 mP1 mR1=>?_);¤hI3:=hI2.b1 sa ¥ ¥ ¥ e1 hle;¶bg (λz3=>?_) (λz3=>?_)
      ·§wpS_pure ⟨_,_,_,_,_,_,_,rfl,l2,.inl ⟨_,rfl,hI3.first (eq_of_beq z3) hf'⟩⟩
      ·rw[beq_iff_eq] at z3;¶wpS_bind (ax IA ¥ λt2 q2 e2 mP2 mR2=>?_);¶wpS_bind (fk mP2 mR2 (l2.kind.trans hk) IB ¥ ¥ (Seg.to sb ¥) λk2 g1 g2 g3=>?_);dsimp only;¦k20:nb - 1 - k2 > 0
       ·rw[if_pos k20];¤hI3:=hI3.bs sa ¥ ¥ k2 g1 λj h1 h2=>by
         have:=ml.mp (g3 j ¥ ¥);rwa [Nat.zero_add] at this
        ¶bg (λz4=>?_) (λz4=>?_)
        ·§wpS_pure ⟨_,_,_,_,_,_,_,rfl,l2,.inl ⟨_,rfl,hI3.first (eq_of_beq z4) hf'⟩⟩
        ·rw[beq_iff_eq] at z4;¶bg (λz5=>?_) (λz5=>?_)
         ·§wpS_pure ⟨_,_,_,_,_,_,_,rfl,l2,.inl ⟨_,rfl,hI3.fin (.inr (eq_of_beq z5))⟩⟩
         ·rw[beq_iff_eq] at z5;¤hge:=Int.le_of_lt (vx.mp (g2 (k2 - 1) ¥));rw[Nat.zero_add] at hge;¶wpS_bind (ax IA ¥ λt3 q3 e3 mP3 mR3=>?_);¤hI4:=hI3.a1 sb ¥ ¥ ¥ e3 hge;¶bg (λz5=>?_) (λz5=>?_)
          ·§wpS_pure ⟨_,_,_,_,_,_,_,rfl,l2,.inl ⟨_,rfl,hI4.fin (.inl (eq_of_beq z5))⟩⟩
          ·rw[beq_iff_eq] at z5;¶bg (λ_=>?_) (λ_=>?_)
           ·§wpS_pure ⟨_,_,_,_,_,_,_,rfl,l2,.inr ⟨rfl,hI4,¥,¥,¥,¥,¥⟩⟩
           ·§wpS_pure ⟨_,_,_,_,_,_,rfl,l2,hI4,¥,¥,¥,¥,¥⟩
       ·rw[if_neg k20];£rfl:k2=nb - 1:=by ¡
        ¤hge:=Int.le_of_lt (vx.mp (g2 (nb - 1 - 1) ¥));rw[Nat.zero_add] at hge;¶wpS_bind (ax IA ¥ λt3 q3 e3 mP3 mR3=>?_);¤hI4:=hI3.a1 sb ¥ ¥ ¥ e3 hge;¶bg (λz5=>?_) (λz5=>?_)
        ·§wpS_pure ⟨_,_,_,_,_,_,_,rfl,l2,.inl ⟨_,rfl,hI4.fin (.inl (eq_of_beq z5))⟩⟩
        ·rw[beq_iff_eq] at z5;¶bg (λ_=>?_) (λ_=>?_)
         ·§wpS_pure ⟨_,_,_,_,_,_,_,rfl,l2,.inr ⟨rfl,hI4,¥,¥,¥,¥,¥⟩⟩
         ·§wpS_pure ⟨_,_,_,_,_,_,rfl,l2,hI4,¥,¥,¥,¥,¥⟩
end
end gc
namespace gc
open PySem PyProof.Rows
variable [Rk]
theorem wp_set {σ:Type} {M:Model} {A:Around} {E:Value→Shared→Prop} {s:Shared} {Q:PUnit→σ→Prop} {st st':σ} (h:Q ⟨⟩ st'):wpS M A E s (set st':StateT σ Sem PUnit) Q st:=by
 unfold wpS;rw[StateT.run_set];§wpAny_pure ⟨rfl,h⟩
noncomputable def laid (s:Nat) (l:List Keyed) (n:Nat) (xs:Array Keyed):Array Keyed:=(l.zipIdx n).foldl (λa (p,j)=>a.setIfInBounds (s+j) p) xs
theorem zr (s:Nat):∀(l:List Keyed) (n:Nat) (xs:Array Keyed),s+n+l.length≤xs.size→(laid s l n xs).size=xs.size∧∀i,(laid s l n xs)[i]?=if s+n≤i∧i < s+n+l.length then l[i - (s+n)]? else xs[i]?
 | [],n,xs,h=>⟨rfl,λi=>by rw[if_neg (by rw[List.length_nil];¡)];rfl⟩
 | p::l,n,xs,h=>by
  rw[List.length_cons] at h;¤e:laid s (p::l) n xs=laid s l (n+1) (xs.setIfInBounds (s+n) p):=rfl;£⟨z1,z2⟩:=zr s l (n+1) (xs.setIfInBounds (s+n) p) (by rw[Array.size_setIfInBounds];¡);rw[e];¶⟨z1.trans Array.size_setIfInBounds,λi=>?_⟩;rw[z2,List.length_cons];¦h1:s+(n+1)≤i∧i < s+(n+1)+l.length
  ·rw[if_pos h1,if_pos ¥,show i - (s+n)=(i - (s+(n+1)))+1 by ¡,List.getElem?_cons_succ]
  ·rw[if_neg h1];¦h2:i=s+n
   ·subst h2;rw[if_pos ¥,show s+n - (s+n)=0 by ¡,Array.getElem?_setIfInBounds_self_of_lt ¥];rfl
   ·rw[if_neg ¥,Array.getElem?_setIfInBounds_ne ¥]
theorem Hs {lo mid hi:Nat} {xs M:Array Keyed} (h1:lo≤mid) (h2:mid≤hi) (h3:hi≤xs.size) (hM:Good (xs.extract lo mid) (xs.extract mid hi) M):M.size=hi - lo∧(laid lo M.toList 0 xs).Perm xs:=by
 ¤hl:xs.toList.length=xs.size:=Array.length_toList;¤hm:M.toList.length=M.size:=Array.length_toList;¤e:(xs.extract lo mid).toList++(xs.extract mid hi).toList=(xs.toList.drop lo).take (hi - lo):=by
  rw[cx,cx,show hi - lo=(mid - lo)+(hi - mid) by ¡,List.take_add,List.drop_drop,show lo+(mid - lo)=mid by ¡]
 ¤sz:M.size=hi - lo:=by
  have:=hM.1.length_eq;rw[e,List.length_take,List.length_drop] at this;¡
 ¶⟨sz,?_⟩;rw[Array.perm_iff_toList_perm];¤ey:(laid lo M.toList 0 xs).toList=xs.toList.take lo++(M.toList++xs.toList.drop hi):=by
  £⟨z1,z2⟩:=zr lo M.toList 0 xs ¥;apply List.ext_getElem?
  ¿i;rw[Array.getElem?_toList,z2,hm,sz];rw[List.getElem?_append,List.getElem?_append,List.length_take,hm,sz,show min lo xs.toList.length=lo by ¡];¦g1:i < lo
  ·rw[if_neg ¥,if_pos g1,List.getElem?_take,if_pos g1,Array.getElem?_toList]
  ·rw[if_neg g1];¦g2:i < hi
   ·rw[if_pos ¥,if_pos ¥];rfl
   ·rw[if_neg ¥,if_neg ¥,List.getElem?_drop,Array.getElem?_toList];congr 1
    ¡
 rw[ey];¤ex:xs.toList=xs.toList.take lo++((xs.toList.drop lo).take (hi - lo)++xs.toList.drop hi):=by
  conv=>lhs;rw[←List.take_append_drop lo xs.toList,←List.take_append_drop (hi - lo) (xs.toList.drop lo),List.drop_drop,show lo+(hi - lo)=hi by ¡]
 conv=>rhs;rw[ex,←e]
 §List.Perm.append_left _ (List.Perm.append_right _ hM.1)
theorem K_laid {lo:Nat} {xs M:Array Keyed} (h:lo+M.size≤xs.size) (i:Nat):K (laid lo M.toList 0 xs) i=if lo≤i∧i < lo+M.size then K M (i - lo) else K xs i:=by
 ¤hm:M.toList.length=M.size:=Array.length_toList;£⟨z1,z2⟩:=zr lo M.toList 0 xs ¥;unfold K;rw[z2,hm,Nat.add_zero];¦g:lo≤i∧i < lo+M.size
 ·rw[if_pos g,if_pos g,Array.getElem?_toList]
 ·rw[if_neg g,if_neg g]
theorem seg_of {M:Array Keyed} (h:Srt M.toList):Seg M 0 M.size:=λi j _ h2 h3=>by
 ¦e:i=j
 ·subst e;§Int.le_refl _
 ¤hm:M.toList.length=M.size:=Array.length_toList;¤e1:M[i]?=some M.toList[i]:=by rw[←Array.getElem?_toList];§List.getElem?_eq_getElem ¥
 ¤e2:M[j]?=some M.toList[j]:=by rw[←Array.getElem?_toList];§List.getElem?_eq_getElem ¥
 rw[zh e1,zh e2];§List.pairwise_iff_getElem.mp h i j ¥ ¥ ¥
theorem Ik {xs M:Array Keyed} {sa na nb k n2:Nat} (h:sa+na+nb≤xs.size) (hna:1≤na) (hnb:1≤nb) (s1:Seg xs sa (sa+na)) (s2:Seg xs (sa+na) (sa+na+nb)) (hk:k≤na) (hn2:n2≤nb)
  (g1:∀i,i < k→K xs (sa+i)≤K xs (sa+na)) (g2:∀i,n2≤i→i < nb→K xs (sa+na - 1)≤K xs (sa+na+i))
  (hM:Good (xs.extract (sa+k) (sa+na)) (xs.extract (sa+na) (sa+na+n2)) M):
  (laid (sa+k) M.toList 0 xs).Perm xs∧(∀i,i < sa∨sa+na+nb≤i→K (laid (sa+k) M.toList 0 xs) i=K xs i)∧Seg (laid (sa+k) M.toList 0 xs) sa (sa+(na+nb)):=by
 £⟨sz,pm⟩:=Hs ¥ ¥ ¥ hM;¤KL:=K_laid (lo:=sa+k) (xs:=xs) (M:=M) ¥;¤sM:=seg_of hM.2;¤hl:xs.toList.length=xs.size:=Array.length_toList;¤hm:M.toList.length=M.size:=Array.length_toList;¤from_:∀m,m < M.size→∃j,sa+k≤j∧j < sa+na+n2∧K M m=K xs j:=λm hm'=>by
  ¤e1:M[m]?=some M.toList[m]:=by rw[←Array.getElem?_toList];§List.getElem?_eq_getElem ¥
  ¤mem:M.toList[m]∈M.toList:=List.getElem_mem _;¤mem:=hM.1.mem_iff.mp mem;rw[zh e1];rcases List.mem_append.mp mem with q | q
  ·rw[cx] at q;£⟨j,j1,j2,j3,e⟩:=mem_mid q;§⟨j,¥,¥,e⟩
  ·rw[cx] at q;£⟨j,j1,j2,j3,e⟩:=mem_mid q;§⟨j,¥,¥,e⟩
 ¶⟨pm,λi hi=>by rw[KL,if_neg ¥],λi j h1 h2 h3=>?_⟩;¤low:∀i j,sa≤i→i < sa+k→i≤j→j < sa+na+nb→K xs i≤K xs j:=λi j h1 h2 h3 h4=>by
  ¦hj:j < sa+na
  ·§s1 i j h1 h3 hj
  ·have:=g1 (i - sa) ¥;rw[show sa+(i - sa)=i by ¡] at this;§Int.le_trans this (s2 _ j ¥ ¥ ¥)
 ¤high:∀i j,sa≤i→i≤j→sa+na+n2≤j→j < sa+na+nb→K xs i≤K xs j:=λi j h1 h2 h3 h4=>by
  ¦hi:i < sa+na
  ·have:=g2 (j - (sa+na)) ¥ ¥;rw[show sa+na+(j - (sa+na))=j by ¡] at this;§Int.le_trans (s1 i _ h1 ¥ ¥) this
  ·§s2 i j ¥ h2 ¥
 rw[KL,KL];¦c1:sa+k≤i∧i < sa+k+M.size
 ·rw[if_pos c1];¦c2:sa+k≤j∧j < sa+k+M.size
  ·rw[if_pos c2];§sM _ _ ¥ ¥ ¥
  ·rw[if_neg c2];£⟨m,m1,m2,e⟩:=from_ (i - (sa+k)) ¥;rw[e];§high m j ¥ ¥ ¥ ¥
 ·rw[if_neg c1];¦c2:sa+k≤j∧j < sa+k+M.size
  ·rw[if_pos c2];£⟨m,m1,m2,e⟩:=from_ (j - (sa+k)) ¥;rw[e];§low i m ¥ ¥ ¥ ¥
  ·rw[if_neg c2];¦c3:i < sa+k
   ·§low i j ¥ c3 h2 ¥
   ·§high i j ¥ h2 ¥ ¥
theorem Fu (xs:Array Keyed) {i j m:Nat} (hj:j≤xs.size) (hm:m < j - i):K (xs.extract i j) m=K xs (i+m):=by
 ¤hl:xs.toList.length=xs.size:=Array.length_toList;unfold K;rw[←Array.getElem?_toList,cx,List.getElem?_take,if_pos hm,List.getElem?_drop,Array.getElem?_toList]
theorem uf {xs:Array Keyed} (h:IntKeys xs) (i j:Nat):IntKeys (xs.extract i j):=λp hp=>by
 rw[cx] at hp;§h p (List.mem_of_mem_drop (List.mem_of_mem_take hp))
theorem tq {xs:Array Keyed} {i j:Nat} (hj:j≤xs.size) (h:Seg xs i j):Seg (xs.extract i j) 0 (xs.extract i j).size:=λx y h1 h2 h3=>by
 rw[Array.size_extract] at h3;rw[Fu xs hj ¥,Fu xs hj ¥];§h _ _ ¥ ¥ ¥
section
variable {prog:Program} {w:World} {A:Around} {E:Value→Shared→Prop} {s:Shared} {a₀:Array Keyed} [LtR prog w A E s]
theorem Du {st:SortSt} {i:Nat} {Q:Bool→SortSt→Prop} {p1 p2:List (Nat×Nat×Nat)} {sa na pw sb nb q:Nat} (h0:IntKeys a₀) (hB:TB a₀ st)
  (hp:(pendingOf st).toList=p1++(sa,na,pw)::(sb,nb,q)::p2) (hi:p1.length=i) (hs:sb=sa+na) (hna:1≤na) (hnb:1≤nb) (hsz:sb+nb≤a₀.size)
  (s1:Seg (arrOf st) sa (sa+na)) (s2:Seg (arrOf st) sb (sb+nb))
  (h:∀st',TB a₀ st'→(pendingOf st').toList=p1++(sa,na+nb,pw)::p2→(∀j,j < sa∨sa+(na+nb)≤j→K (arrOf st') j=K (arrOf st) j)→Seg (arrOf st') sa (sa+(na+nb))→Q true st'):
  wpS (model prog w) A E s (mergeAt' i) Q st:=by
 subst hs;¤hx:=IntKeys.perm h0 hB.perm;¤hz:=hB.size;¤e1:(pendingOf st)[i]?=some (sa,na,pw):=by
  rw[←Array.getElem?_toList,hp,List.getElem?_append_right ¥,hi,Nat.sub_self];rfl
 ¤e2:(pendingOf st)[i+1]?=some (sa+na,nb,q):=by
  rw[←Array.getElem?_toList,hp,List.getElem?_append_right ¥,hi,show i+1 - i=1 by ¡];rfl
 ¤e3:(((pendingOf st).setIfInBounds i (sa,na+nb,pw)).eraseIdxIfInBounds (i+1)).toList=p1++(sa,na+nb,pw)::p2:=by
  ¤lp:(pendingOf st).size=i+2+p2.length:=by
   rw[←Array.length_toList,hp,List.length_append,List.length_cons,List.length_cons];¡
  rw[Array.eraseIdxIfInBounds,dif_pos (by rw[Array.size_setIfInBounds];¡),Array.toList_eraseIdx,Array.toList_setIfInBounds,hp];subst hi;rw[List.set_append_right _ _ (Nat.le_refl _),Nat.sub_self,List.eraseIdx_append_of_length_le ¥,show p1.length+1 - p1.length=1 by ¡];rfl
 ¶wpS_bind (wpS_get ?_);dsimp only;rw[e1,e2];dsimp only;¶wpS_bind (wp_set ?_);¶wpS_bind (ax (arr:=arrOf st) hx ¥ λt0 q0 x0 mP0 mR0=>?_);¶wpS_bind (fk (arr:=arrOf st) mP0 mR0 hB.kind hx ¥ ¥ s1 λk h1 h2 h3=>?_);dsimp only;¤B1:TB a₀ (setPending st (((pendingOf st).setIfInBounds i (sa,na+nb,pw)).eraseIdxIfInBounds (i+1))):=⟨hB.perm,hB.kind,hB.failed⟩;¤g1:∀i,i < k→K (arrOf st) (sa+i)≤K (arrOf st) (sa+na):=λi hi=>Fh.mp (h2 i hi);¶bg (λz=>?_) (λz=>?_)
 ·¤z:na - k=0:=eq_of_beq z;¶wpS_pure (h _ B1 e3 (λ_ _=>rfl) λx y c1 c2 c3=>?_);show K (arrOf st) x≤K (arrOf st) y
  ¦c4:y < sa+na
  ·§s1 x y c1 c2 c4
  ·¦c5:x < sa+na
   ·have:=g1 (x - sa) ¥;rw[show sa+(x - sa)=x by ¡] at this;§Int.le_trans this (s2 _ y ¥ ¥ ¥)
   ·§s2 x y ¥ c2 ¥
 rw[beq_iff_eq] at z;¶wpS_bind (ax (arr:=arrOf st) hx ¥ λt1 q1 x1 mP1 mR1=>?_);¶wpS_bind (fk (arr:=arrOf st) mP1 mR1 hB.kind hx ¥ ¥ s2 λn2 k1 k2 k3=>?_);dsimp only;¤elast:sa+k+(na - k) - 1=sa+na - 1:=by ¡
 rw[elast] at k2 k3;¤g2:∀i,n2≤i→i < nb→K (arrOf st) (sa+na - 1)≤K (arrOf st) (sa+na+i):=λi c1 c2=>ml.mp (k3 i c1 c2);¶bg (λz2=>?_) (λz2=>?_)
 ·¤z2:n2=0:=eq_of_beq z2;¶wpS_pure (h _ B1 e3 (λ_ _=>rfl) λx y c1 c2 c3=>?_);show K (arrOf st) x≤K (arrOf st) y
  ¦c4:y < sa+na
  ·§s1 x y c1 c2 c4
  ·¦c5:x < sa+na
   ·have:=g2 (y - (sa+na)) ¥ ¥;rw[show sa+na+(y - (sa+na))=y by ¡] at this;§Int.le_trans (s1 x _ ¥ ¥ ¥) this
   ·§s2 x y ¥ c2 ¥
 rw[beq_iff_eq] at z2;¤zx:((arrOf st).extract (sa+k) (sa+na)).size=na - k:=by rw[Array.size_extract];¡
 ¤zy:((arrOf st).extract (sa+na) (sa+na+n2)).size=n2:=by rw[Array.size_extract];¡
 ¤KX:∀m,m < na - k→K ((arrOf st).extract (sa+k) (sa+na)) m=K (arrOf st) (sa+k+m):=λm hm=>Fu _ ¥ ¥;¤KY:∀m,m < n2→K ((arrOf st).extract (sa+na) (sa+na+n2)) m=K (arrOf st) (sa+na+m):=λm hm=>Fu _ ¥ ¥;¤sx:Seg (arrOf st) (sa+k) (sa+na):=λx y c1 c2 c3=>s1 x y ¥ c2 c3;¤sy:Seg (arrOf st) (sa+na) (sa+na+n2):=λx y c1 c2 c3=>s2 x y ¥ c2 ¥;¤hf:K ((arrOf st).extract (sa+na) (sa+na+n2)) 0≤K ((arrOf st).extract (sa+k) (sa+na)) 0:=by
  rw[KX 0 ¥,KY 0 ¥];§Int.le_of_lt (zu.mp (h3 k ¥ ¥))
 ¤hl:∀j,j < ((arrOf st).extract (sa+na) (sa+na+n2)).size→K ((arrOf st).extract (sa+na) (sa+na+n2)) j≤K ((arrOf st).extract (sa+k) (sa+na)) (((arrOf st).extract (sa+k) (sa+na)).size - 1):=λj hj=>by
  rw[zy] at hj;rw[zx,KX _ ¥,KY j hj,show sa+k+(na - k - 1)=sa+na - 1 by ¡];§Int.le_of_lt (vx.mp (k2 j hj))
 ¤fin:∀M st',Lk (setPending st (((pendingOf st).setIfInBounds i (sa,na+nb,pw)).eraseIdxIfInBounds (i+1))) st'→Good ((arrOf st).extract (sa+k) (sa+na)) ((arrOf st).extract (sa+na) (sa+na+n2)) M→
   wpS (model prog w) A E s (do
    modify λs=>setArr s (laid (sa+k) M.toList 0 (arrOf s))
    let x ←get
    pure (failedOf x).isNone:StateT SortSt Sem Bool) Q st':=λM st' l g=>by
  £⟨m1,m2,m3⟩:=Ik ¥ hna hnb s1 s2 h1 k1 g1 g2 g;¶wpS_bind (wpS_modify (wpS_bind (wpS_get ?_)));¤ea:arrOf st'=arrOf st:=l.arr;¤ef:failedOf st'=none:=l.failed.trans hB.failed;¤er:(failedOf (setArr st' (laid (sa+k) M.toList 0 (arrOf st')))).isNone=true:=by
   show (failedOf st').isNone=true
   rw[ef];rfl
  rw[er];¶wpS_pure (h _ ⟨?_,l.kind.trans hB.kind,ef⟩ ?_ ?_ ?_)
  ·show (laid (sa+k) M.toList 0 (arrOf st')).Perm a₀
   rw[ea];§m1.trans hB.perm
  ·show (pendingOf st').toList=_
   rw[l.pend];§e3
  ·show ∀j,_→K (laid (sa+k) M.toList 0 (arrOf st')) j=_
   rw[ea];§λj hj=>m2 j ¥
  ·show Seg (laid (sa+k) M.toList 0 (arrOf st')) _ _
   rw[ea];§m3
 ¶bg (λ_=>wpS_bind ?_) (λ_=>wpS_bind ?_)
 ·§Ey (a:=(arrOf st).extract (sa+k) (sa+na)) (b:=(arrOf st).extract (sa+na) (sa+na+n2)) hB.kind (uf hx _ _) (uf hx _ _) ¥ ¥ (tq ¥ sx) (tq ¥ sy) hf hl λM st' l g=>fin M st' l g
 ·§Es (a:=(arrOf st).extract (sa+k) (sa+na)) (b:=(arrOf st).extract (sa+na) (sa+na+n2)) hB.kind (uf hx _ _) (uf hx _ _) ¥ ¥ (tq ¥ sx) (tq ¥ sy) hf hl λM st' l g=>fin M st' l g
end
end gc
namespace gc
open PySem PyProof.Rows
variable [Rk]
def Runs (xs:Array Keyed):Nat→List (Nat×Nat×Nat)→Nat→Prop
 | lo,[],hi=>lo=hi
 | lo,t::r,hi=>t.1=lo∧1≤t.2.1∧Seg xs lo (lo+t.2.1)∧Runs xs (lo+t.2.1) r hi
theorem Runs.app {xs:Array Keyed} {hi:Nat} {q:List (Nat×Nat×Nat)}:∀{p:List (Nat×Nat×Nat)} {lo:Nat},Runs xs lo (p++q) hi↔∃m,Runs xs lo p m∧Runs xs m q hi
 | [],lo=>⟨λh=>⟨lo,rfl,h⟩,λ⟨m,h1,h2⟩=>by cases h1;§h2⟩
 | t::p,lo=>by
  show (_∧_∧_∧Runs xs _ (p++q) hi)↔∃m,(_∧_∧_∧Runs xs _ p m)∧_
  rw[Runs.app (p:=p)];§⟨λ⟨a,b,c,m,d,e⟩=>⟨m,⟨a,b,c,d⟩,e⟩,λ⟨m,⟨a,b,c,d⟩,e⟩=>⟨a,b,c,m,d,e⟩⟩
theorem Runs.le {xs:Array Keyed} {hi:Nat}:∀{p:List (Nat×Nat×Nat)} {lo:Nat},Runs xs lo p hi→lo+p.length≤hi
 | [],lo,h=>by cases h;§Nat.le_refl _
 | t::p,lo,⟨_,h1,_,h2⟩=>by
  have:=h2.le;rw[List.length_cons];¡
theorem Runs.congr {xs ys:Array Keyed} {hi:Nat}:∀{p:List (Nat×Nat×Nat)} {lo:Nat},Runs xs lo p hi→(∀k,lo≤k→k < hi→K ys k=K xs k)→Runs ys lo p hi
 | [],lo,h,_=>h
 | t::p,lo,⟨h0,h1,h2,h3⟩,e=>⟨h0,h1,h2.congr λk k1 k2=>e k k1 (by have:=h3.le;¡),h3.congr λk k1 k2=>e k ¥ k2⟩
theorem Runs.same {xs:Array Keyed} {hi:Nat}:∀{p q:List (Nat×Nat×Nat)} {lo:Nat},Runs xs lo p hi→q.map (λt=>(t.1,t.2.1))=p.map (λt=>(t.1,t.2.1))→Runs xs lo q hi
 | [],[],lo,h,_=>h
 | [],_::_,lo,h,e=>by cases e
 | _::_,[],lo,h,e=>by cases e
 | t::p,u::q,lo,⟨h0,h1,h2,h3⟩,e=>by
  rw[List.map_cons,List.map_cons,List.cons.injEq,Prod.mk.injEq] at e;£⟨⟨e1,e2⟩,e3⟩:=e;¶⟨e1.trans h0,¥,by rw[e2];§h2,?_⟩;rw[e2];§h3.same e3
section
variable {prog:Program} {w:World} {A:Around} {E:Value→Shared→Prop} {s:Shared} {a₀:Array Keyed} [LtR prog w A E s]
theorem qu {st:SortSt} {i hi:Nat} {Q:Bool→SortSt→Prop} (h0:IntKeys a₀) (hB:TB a₀ st) (hr:Runs (arrOf st) 0 (pendingOf st).toList hi) (hhi:hi≤a₀.size) (hi2:i+1 < (pendingOf st).size)
  (h:∀st',TB a₀ st'→(pendingOf st').size+1=(pendingOf st).size→Runs (arrOf st') 0 (pendingOf st').toList hi→(∀j,hi≤j→K (arrOf st') j=K (arrOf st) j)→Q true st'):wpS (model prog w) A E s (mergeAt' i) Q st:=by
 ¤hl:(pendingOf st).toList.length=(pendingOf st).size:=Array.length_toList;£⟨⟨sa,na,pw⟩,⟨sb,nb,q⟩,p1,p2,e1,el,el2⟩:∃t u p1 p2,(pendingOf st).toList=p1++t::u::p2∧p1.length=i∧p2.length+i+2=(pendingOf st).size:=by
  ¶⟨(pendingOf st).toList[i],(pendingOf st).toList[i+1],(pendingOf st).toList.take i,(pendingOf st).toList.drop (i+2),?_,by rw[List.length_take];¡,by rw[List.length_drop];¡⟩;conv=>lhs;rw[←List.take_append_drop i (pendingOf st).toList,List.drop_eq_getElem_cons ¥,List.drop_eq_getElem_cons ¥]
 ¤hr2:=hr;rw[e1,Runs.app] at hr2;£⟨m,r1,⟨q0,q1,q2,t0,t1,t2,r2⟩⟩:=hr2;dsimp only at q0 q1 q2 t0 t1 t2 r2;¤ll:=r2.le;subst q0 t0;¶Du h0 hB e1 el rfl q1 t1 ¥ q2 t2 λst' B' p' k' s'=>?_;¶h st' B' ?_ ?_ λj hj=>k' j ¥
 ·have:=congrArg List.length p';rw[List.length_append,el,List.length_cons,Array.length_toList] at this;¡
 ·rw[p',Runs.app];¤r1':=r1.congr (ys:=arrOf st') λk _ hk=>k' k (.inl hk);¶⟨_,r1',rfl,by show 1≤_+_;¡,s',?_⟩;have:=r2.congr (ys:=arrOf st') λk hk1 hk2=>k' k (.inr ¥);rwa [Nat.add_assoc] at this
theorem TB.setP {st:SortSt} {p:Array (Nat×Nat×Nat)} (h:TB a₀ st):TB a₀ (setPending st p):=⟨h.perm,h.kind,h.failed⟩
theorem ite_le (c:Prop) [Decidable c] (n:Nat):(if c then n - 1 else n)≤n:=by split <;> ¡
theorem ku {xs:Array Keyed} {p:Array (Nat×Nat×Nat)} {lo n:Nat} (r:Runs xs 0 p.toList lo) (h:1≤n) (s:Seg xs lo (lo+n)):Runs xs 0 (p.push (lo,n,0)).toList (lo+n):=by
 rw[Array.toList_push,Runs.app];§⟨lo,r,rfl,h,s,rfl⟩
theorem qz {xs:Array Keyed} {p:Array (Nat×Nat×Nat)} {lo i pw:Nat} (r:Runs xs 0 p.toList lo):Runs xs 0 (p.modify i λx=>(x.fst,x.2.fst,pw)).toList lo:=by
 ¶r.same ?_;apply List.ext_getElem?
 ¿j;rw[List.getElem?_map,List.getElem?_map,Array.getElem?_toList,Array.getElem?_modify,Array.getElem?_toList];split
 ·cases p[j]? <;> rfl
 ·rfl
theorem Bz {st:SortSt} {Q:Unit→SortSt→Prop} (h0:IntKeys a₀) (hB:TB a₀ st) (hp:pendingOf st=#[])
  (h:∀st',(arrOf st').Perm a₀→failedOf st'=none→SortedTo (arrOf st') a₀.size→Q () st'):wpS (model prog w) A E s sortRuns' Q st:=by
 rw[sortRuns'_eq];¶wpS_bind (wpS_get ?_);dsimp only;rw[hB.size];¶wpS_bind (wpS_mono (wpS_forRange
  (I:=λx c st'=>∃lo,c=(none,lo)∧TB a₀ st'∧Runs (arrOf st') 0 (pendingOf st').toList lo∧lo≤a₀.size∧min x a₀.size≤lo)
  (Q:=λc st'=>c=(none,a₀.size)∧TB a₀ st'∧Runs (arrOf st') 0 (pendingOf st').toList a₀.size) ?step ?fin ⟨0,rfl,hB,by rw[hp];§rfl,¥,¥⟩) ?post)
 case fin=>
  rintro c st' ⟨lo,rfl,B,r,h1,h2⟩;£rfl:lo=a₀.size:=by ¡
  §⟨rfl,B,r⟩
 case post=>
  rintro c st1 ⟨rfl,B,r⟩;¶wpS_bind (wpS_mono (wpS_forRange (I:=λx c st'=>c=(none,())∧TB a₀ st'∧Runs (arrOf st') 0 (pendingOf st').toList a₀.size∧(pendingOf st').size+x≤a₀.size)
   (Q:=λc st'=>c=(none,())∧TB a₀ st'∧Runs (arrOf st') 0 (pendingOf st').toList a₀.size∧(pendingOf st').size≤1) ?step2 ?fin2 ?init2) ?post2)
  case init2=>
   have:=r.le;rw[Array.length_toList] at this;§⟨rfl,B,r,¥⟩
  case fin2=>
   rintro c st' ⟨rfl,B,r,h1⟩;§⟨rfl,B,r,¥⟩
  case step2=>
   rintro x c st' _ hx ⟨rfl,B,r,h1⟩;¶wpS_bind (wpS_get ?_);¶bg (λz=>?_) (λz=>?_)
   ·§wpS_pure ⟨rfl,B,r,z⟩
   ·¶wpS_bind (qu h0 B r (Nat.le_refl _) (Nat.lt_of_le_of_lt (Nat.succ_le_succ (ite_le _ _)) ¥) λst2 B2 p2 r2 _=>?_);rw[if_neg (by decide)];§wpS_pure ⟨rfl,B2,r2,¥⟩
  case post2=>
   rintro c st' ⟨rfl,B,r,h1⟩;¶wpS_pure (h _ B.perm B.failed λi j hij hj=>?_);¤hl:(pendingOf st').toList.length=(pendingOf st').size:=Array.length_toList;generalize (pendingOf st').toList=p at r hl;cases p with
   | nil=>§absurd (show 0=a₀.size from r) ¥
   | cons t p=>
    cases p with
    | nil=>
     £⟨_,_,sg,e⟩:=r;§sg i j ¥ hij (by rw[show 0+t.2.1=a₀.size from e];§hj)
    | cons u p=>rw[List.length_cons,List.length_cons] at hl;¡
 case step=>
  rintro x c st1 _ hx ⟨lo,rfl,B1,r1,hlo,hxlo⟩;dsimp only;¶bg (λz=>?_) (λz=>?_)
  ·£rfl:lo=a₀.size:=by ¡
   §wpS_pure ⟨rfl,B1,r1⟩
  ¶wpS_bind (L4 h0 ¥ ¥ B1 λn st2 B2 k2 n1 n2 s2=>?_);dsimp only;¤r2:Runs (arrOf st2) 0 (pendingOf st2).toList lo:=by
   rw[k2.pend];§r1.congr λk _ hk=>k2.low k hk
  ¶bg (λz2=>?_) (λz2=>?_)
  ·¶wpS_bind (wpS_lift (wpAny_rule ⟨rfl,?_⟩));¤m1:n≤min (a₀.size - lo) (minRun' a₀.size a₀.size 0):=by ¡
   ¤m2:min (a₀.size - lo) (minRun' a₀.size a₀.size 0)≤a₀.size - lo:=by ¡
   generalize min (a₀.size - lo) (minRun' a₀.size a₀.size 0)=m at m1 m2 ⊢;¶wpS_bind (G9 h0 ¥ m1 n1 B2 s2 λst3 B3 k3 s3=>?_);¤r3:Runs (arrOf st3) 0 (pendingOf st3).toList lo:=by
    rw[k3.pend];§r2.congr λk _ hk=>k3.low k hk
   clear r2 s2 B2 k2 k3;¤n1:1≤m:=by ¡
   rw[if_neg (by decide)];¶wpS_bind (wpS_get ?_);cases hb:(pendingOf st3).back? with
   | none=>
    dsimp only;§wpS_bind (wpS_modify (wpS_pure ⟨lo+m,rfl,TB.setP B3,ku r3 n1 s3,¥,¥⟩))
   | some t=>
    £⟨s1,n1',pw0⟩:=t;dsimp only;¶wpS_bind (wpS_mono (wpS_forRange (I:=λ_ c st'=>c=(none,())∧TB a₀ st'∧Runs (arrOf st') 0 (pendingOf st').toList lo∧Seg (arrOf st') lo (lo+m))
     (Q:=λc st'=>c=(none,())∧TB a₀ st'∧Runs (arrOf st') 0 (pendingOf st').toList lo∧Seg (arrOf st') lo (lo+m)) ?_ (λ_ _ hh=>hh) ⟨rfl,B3,r3,s3⟩) ?_)
    ·rintro y c st3 _ _ ⟨rfl,B3,r3,s3⟩;¶wpS_bind (wpS_get ?_);¦hz:(pendingOf st3).size > 1
     ·£⟨⟨o1,o2,o3⟩,ho⟩:∃t,(pendingOf st3)[(pendingOf st3).size - 2]?=some t:=⟨_,getElem?_pos _ _ ¥⟩;rw[if_pos hz,ho];dsimp only;¶bg (λ_=>wpS_pure ⟨rfl,B3,r3,s3⟩) (λ_=>?_);¶wpS_bind (qu h0 B3 r3 hlo ¥ λst4 B4 _ r4 k4=>?_);rw[if_neg (by decide)];§wpS_pure ⟨rfl,B4,r4,s3.congr λk hk _=>k4 k hk⟩
     ·rw[if_neg hz];§wpS_pure ⟨rfl,B3,r3,s3⟩
    ·rintro c st3 ⟨rfl,B3,r3,s3⟩;dsimp only;§wpS_bind (wpS_modify (wpS_bind (wpS_modify (wpS_pure ⟨lo+m,rfl,TB.setP (TB.setP B3),ku (qz r3) n1 s3,¥,¥⟩))))
  ·¶wpS_bind (wpS_get ?_);cases hb:(pendingOf st2).back? with
   | none=>
    dsimp only;§wpS_bind (wpS_modify (wpS_pure ⟨lo+n,rfl,TB.setP B2,ku r2 n1 s2,¥,¥⟩))
   | some t=>
    £⟨s1,n1',pw0⟩:=t;dsimp only;¶wpS_bind (wpS_mono (wpS_forRange (I:=λ_ c st'=>c=(none,())∧TB a₀ st'∧Runs (arrOf st') 0 (pendingOf st').toList lo∧Seg (arrOf st') lo (lo+n))
     (Q:=λc st'=>c=(none,())∧TB a₀ st'∧Runs (arrOf st') 0 (pendingOf st').toList lo∧Seg (arrOf st') lo (lo+n)) ?_ (λ_ _ hh=>hh) ⟨rfl,B2,r2,s2⟩) ?_)
    ·rintro y c st3 _ _ ⟨rfl,B3,r3,s3⟩;¶wpS_bind (wpS_get ?_);¦hz:(pendingOf st3).size > 1
     ·£⟨⟨o1,o2,o3⟩,ho⟩:∃t,(pendingOf st3)[(pendingOf st3).size - 2]?=some t:=⟨_,getElem?_pos _ _ ¥⟩;rw[if_pos hz,ho];dsimp only;¶bg (λ_=>wpS_pure ⟨rfl,B3,r3,s3⟩) (λ_=>?_);¶wpS_bind (qu h0 B3 r3 hlo ¥ λst4 B4 _ r4 k4=>?_);rw[if_neg (by decide)];§wpS_pure ⟨rfl,B4,r4,s3.congr λk hk _=>k4 k hk⟩
     ·rw[if_neg hz];§wpS_pure ⟨rfl,B3,r3,s3⟩
    ·rintro c st3 ⟨rfl,B3,r3,s3⟩;dsimp only;§wpS_bind (wpS_modify (wpS_bind (wpS_modify (wpS_pure ⟨lo+n,rfl,TB.setP (TB.setP B3),ku (qz r3) n1 s3,¥,¥⟩))))
end
end gc
namespace L2.Srt
open PySem PySem.W PyProof.Rows
theorem Ie {α β:Type} {f:α→β} {l m:List β} (h:l.Perm m):∀r:List α,m=r.map f→∃is:List α,is.Perm r∧l=is.map f:=by
 induction h with
 | nil=>
  ¿r e;cases r with
  | nil=>§⟨[],.refl _,rfl⟩
  | cons a r=>cases e
 | cons x p ih=>
  ¿r e;cases r with
  | nil=>cases e
  | cons a r=>
   rw[List.map_cons] at e;injection e with e1 e2
   £⟨is,p1,rfl⟩:=ih r e2;§⟨a::is,p1.cons a,by rw[e1];rfl⟩
 | swap x y l=>
  ¿r e;match r,e with
  | a::b::r,e=>
   rw[List.map_cons,List.map_cons] at e;injection e with e1 e2
   injection e2 with e2 e3
   §⟨b::a::r,List.Perm.swap a b r,by rw[e1,e2,e3];rfl⟩
 | trans p q ih1 ih2=>
  ¿r e;£⟨js,p1,e1⟩:=ih2 r e;£⟨is,p2,e2⟩:=ih1 js e1;§⟨is,p2.trans p1,e2⟩
open Classical in
noncomputable def rho (vs:List Value) (r:Nat→Int) (x:Value):Int:=if h:∃i,i < vs.length∧vs.getD i Value.none=x then r (Classical.choose h) else 0
theorem Dy {vs:List Value} {r:Nat→Int} (hr:∀i j,i < vs.length→j < vs.length→vs.getD i Value.none=vs.getD j Value.none→r i=r j) {i:Nat} (hi:i < vs.length):rho vs r (vs.getD i Value.none)=r i:=by
 ¤h:∃j,j < vs.length∧vs.getD j Value.none=vs.getD i Value.none:=⟨i,hi,rfl⟩;unfold rho;rw[dif_pos h];§hr _ _ (Classical.choose_spec h).1 hi (Classical.choose_spec h).2
@[reducible] noncomputable def rkOf (vs:List Value) (r:Nat→Int) (κ:SortKind):gc.Rk:=⟨rho vs r,λx=>∃i,i < vs.length∧vs.getD i Value.none=x,κ⟩
theorem ltR_of {prog:Program} {w:World} {A:Around} {E:Value→Shared→Prop} {s:Shared} {vs:List Value} {r:Nat→Int} {κ:SortKind} (hr:∀i j,i < vs.length→j < vs.length→vs.getD i Value.none=vs.getD j Value.none→r i=r j)
  (hc:Cmp (kas_ask prog w A κ vs) vs.length r s):@gc.LtR (rkOf vs r κ) prog w A E s:=by
 letI:=rkOf vs r κ
 ¶⟨λst x y p q Q hx hy hk h=>?_⟩;£⟨i,hi,rfl⟩:=hx;£⟨j,hj,rfl⟩:=hy;rw[lt'_eq];¶wpS_bind (wpS_get ?_);rw[hk];¶wpS_bind (wpS_lift (wpAny_attempt ?_));¤e1:(gc.Rk.ρ (vs.getD i Value.none):Int)=r i:=Dy hr hi;¤e2:(gc.Rk.ρ (vs.getD j Value.none):Int)=r j:=Dy hr hj;rw[e1,e2] at h;¤g:=hc i j (λb s'=>s'=s∧b=decide (r i < r j)) hi hj ⟨rfl,rfl⟩;¶wpAny_mono g (λb s' z=>?_) λ_ _ z=>z.elim;£⟨rfl,rfl⟩:=z;§⟨rfl,wpS_pure h⟩
section
variable {prog:Program} {w:World} {A:Around} {E:Value→Shared→Prop} {s:Shared} {r:Nat→Int}
theorem vf {a:Addr} {vs:List Value} {n:Nat} {P:PySem.Fin→Shared→Prop} (ho:s.heap.get? a=some (seqObj "list" vs.toArray n)) (hz:vs.length≤sizeLine)
  (hr:∀i j,i < vs.length→j < vs.length→vs.getD i Value.none=vs.getD j Value.none→r i=r j)
  (ask:2≤vs.length→wpAny (model prog w) A (keyKind' vs.toArray) (λκ s'=>s'={ s with heap:=de s.heap a vs }∧Cmp (kas_ask prog w A κ vs) vs.length r { s with heap:=de s.heap a vs }) (λ_ _=>False) { s with heap:=de s.heap a vs })
  (h:∀is:List Nat,is.Perm (List.range vs.length)→(∀i j,i≤j→j < vs.length→r (is.getD i 0)≤r (is.getD j 0))→P (.done (.ret .none)) { s with heap:=sortedHeap s.heap a vs (List.toArray (is.map λi=>vs.getD i Value.none)) }):
  wpAny (model prog w) A (Builtin.«list.sort» ⟨[.ref a],[]⟩) P E s:=by
 rw[list_sort_plain];¤ha:a < s.heap.objs.size:=Heap.lt_size ho;¶wpAny_bind (listItems_at ho rfl ?_);¶wpAny_bind (listUpdate_at ho rfl ?_ (by rw[List.size_toArray];§hz) (Nat.zero_le _));£⟨e1,ho1⟩:∃e1,(s.heap.update a (Obj.mapSeq λ_=>#[])).get? a=some (seqObj "list" #[] e1):=⟨_,get?_update_seq ho (λ_=>#[])⟩;¶wpAny_bind (seqEpoch_at ho1 rfl ?_);¶wpAny_bind (wpAny_newTuple ?_ hz);¶wpAny_bind (wpAny_newList ?_ (Nat.zero_le _));¶wpAny_holding ?_;¤ho6:(de s.heap a vs).get? a=some (seqObj "list" #[] e1):=by
  unfold de;rw[Heap.get?_push_ne _ _ _ (by rw[size_push',Heap.size_update];§Nat.ne_of_lt (Nat.lt_succ_of_lt ha)),Heap.get?_push_ne _ _ _ (by rw[Heap.size_update];§Nat.ne_of_lt ha)];§ho1
 show wpAny (model prog w) A _ P E { s with heap:=de s.heap a vs }
 dsimp only;¤big:∀u:SortSt,(arrOf u).Perm (pairsOf vs)→((arrOf u).map (·.2)).size≤sizeLine:=λu pu=>by
  rw[Array.size_map,pu.size_eq,pairsOf_size];§hz
 ¤er:vs=(List.range vs.length).map λi=>vs.getD i Value.none:=by
  ¶List.ext_getElem (by rw[List.length_map,List.length_range]) λi h1 h2=>?_;rw[List.getElem_map,List.getElem_range,List.getD_eq_getElem?_getD,List.getElem?_eq_getElem h1];rfl
 ¤ends:∀(κ:SortKind) (u:SortSt),(arrOf u).Perm (pairsOf vs)→@gc.SortedTo (rkOf vs r κ) (arrOf u) (pairsOf vs).size→P (.done (.ret .none)) { s with heap:=sortedHeap s.heap a vs ((arrOf u).map (·.2)) }:=λκ u pu su=>by
  ¤hl:(arrOf u).toList.Perm (vs.zip vs):=by rw[←pairsOf_toList];§Array.perm_iff_toList_perm.mp pu
  ¤two:∀q∈(arrOf u).toList,q.1=q.2:=λq hq=>by
   ¤hm:=hl.mem_iff.mp hq;£⟨i,hi,e⟩:=List.mem_iff_getElem.mp hm;rw[List.getElem_zip] at e;rw[←e]
  ¤h2:((arrOf u).toList.map (·.2)).Perm vs:=by
   have:=hl.map (·.2);rw[List.map_snd_zip (Nat.le_refl _)] at this;§this
  £⟨is,p1,e⟩:=Ie h2 (List.range vs.length) er;¤hlen:is.length=vs.length:=by rw[p1.length_eq,List.length_range]
  ¤key:∀i,i < vs.length→@gc.K (rkOf vs r κ) (arrOf u) i=r (is.getD i 0):=λi hi=>by
   ¤hs:i < (arrOf u).size:=by rw[pu.size_eq,pairsOf_size];§hi
   ¤e1:(arrOf u)[i]?=some (arrOf u)[i]:=getElem?_pos _ i hs;¤hi2:i < is.length:=by ¡
   ¤e2:(arrOf u)[i].2=vs.getD (is.getD i 0) Value.none:=by
    have:=congrArg (λl=>l[i]?) e;simp only[List.getElem?_map,Array.getElem?_toList,e1,List.getElem?_eq_getElem hi2,Option.map_some,Option.some.injEq] at this;rw[this,List.getD_eq_getElem?_getD (l:=is),List.getElem?_eq_getElem hi2];rfl
   ¤hin:is.getD i 0 < vs.length:=by
    have:is[i]∈List.range vs.length:=p1.mem_iff.mp (List.getElem_mem hi2);rw[List.getD_eq_getElem?_getD,List.getElem?_eq_getElem hi2];§List.mem_range.mp this
   unfold gc.K;rw[e1];show rho vs r (arrOf u)[i].1=_
   rw[two _ (Array.mem_toList_iff.mpr (Array.getElem_mem hs)),e2];§Dy hr hin
  ¤eo:(arrOf u).map (·.2)=List.toArray (is.map λi=>vs.getD i Value.none):=by
   apply Array.toList_inj.mp
   rw[Array.toList_map,e]
  rw[eo];¶h is p1 λi j hij hj=>?_;rw[←key i ¥,←key j hj];§su i j hij (by rw[pairsOf_size];§hj)
 ¦h2:vs.toArray.size < 2
 ·rw[if_pos h2,if_pos h2];¶wpAny_bind (wpAny_pure ?_);rw[StateT.run_pure];¶wpAny_bind (wpAny_pure ?_);dsimp only;¤p0:(arrOf (SortSt.mk' general' (vs.toArray.zip vs.toArray) #[] 7 none)).Perm (pairsOf vs):=Array.Perm.refl _;¶wpAny_bind (seqEpoch_at ho6 rfl ?_);¶wpAny_bind (listUpdate_at ho6 rfl ?_ (Nat.zero_le _) (Nat.le_trans (big _ p0) ¥));simp only[bne_self_eq_false,Bool.false_eq_true,if_false];¶wpAny_pure (ends general' _ p0 λi j hij hj=>?_);rw[pairsOf_size] at hj;rw[List.size_toArray] at h2;have:i=j:=by ¡
  subst this;§Int.le_refl _
 ·rw[if_neg h2,if_neg h2];rw[List.size_toArray] at h2;¶wpAny_bind (wpAny_mono (ask ¥) (λκ s0 hk=>?_) λ_ _ x=>x.elim);£⟨rfl,hc⟩:=hk;letI:=rkOf vs r κ
  haveI:gc.LtR prog w A E { s with heap:=de s.heap a vs }:=ltR_of hr hc
  ¤keys:gc.IntKeys (pairsOf vs):=λq hq=>by
   rw[pairsOf_toList] at hq;£⟨i,hi,e⟩:=List.mem_iff_getElem.mp hq;rw[List.getElem_zip] at e;¤hi':i < vs.length:=by rw[List.length_zip] at hi;¡
   ¶⟨i,hi',?_⟩;rw[←e,List.getD_eq_getElem?_getD,List.getElem?_eq_getElem hi'];rfl
  ¶wpAny_bind (wpAny_mono (gc.Bz (a₀:=pairsOf vs) (st:=SortSt.mk' κ (vs.toArray.zip vs.toArray) #[] 7 none)
   (Q:=λ_ u=>(arrOf u).Perm (pairsOf vs)∧failedOf u=none∧gc.SortedTo (arrOf u) (pairsOf vs).size) keys ⟨Array.Perm.refl _,rfl,rfl⟩ rfl λu b1 b2 b3=>⟨b1,b2,b3⟩) ?_ λ_ _ e=>e)
  rintro ⟨⟨⟩,u⟩ s' ⟨rfl,pu,fu,su⟩;dsimp only;¶wpAny_bind (seqEpoch_at ho6 rfl ?_);¶wpAny_bind (listUpdate_at ho6 rfl ?_ (Nat.zero_le _) (Nat.le_trans (big _ pu) ¥));rw[fu];simp only[bne_self_eq_false,Bool.false_eq_true,if_false];§wpAny_pure (ends κ u pu su)
theorem Qh {l:Addr} {vs:List Value} {Q:Value→Shared→Prop} (hl:s.heap.IsList l vs.toArray∨s.heap.IsTuple l vs.toArray) (sz:vs.length≤sizeLine)
  (hr:∀i j,i < vs.length→j < vs.length→vs.getD i Value.none=vs.getD j Value.none→r i=r j)
  (ask:2≤vs.length→wpAny (model prog w) A.in1.in1 (keyKind' vs.toArray) (λκ s'=>s'={ s with heap:=de (eh s.heap vs) (s.heap.objs.size+1) vs }∧Cmp (kas_ask prog w A.in1.in1 κ vs) vs.length r { s with heap:=de (eh s.heap vs) (s.heap.objs.size+1) vs }) (λ_ _=>False) { s with heap:=de (eh s.heap vs) (s.heap.objs.size+1) vs })
  (h:∀is:List Nat,is.Perm (List.range vs.length)→(∀i j,i≤j→j < vs.length→r (is.getD i 0)≤r (is.getD j 0))→Q (.ref (s.heap.objs.size+1)) { s with heap:=sortedAll s.heap vs (List.toArray (is.map λi=>vs.getD i Value.none)) }):
  wpAny (model prog w) A (call (.builtin "sorted") [.ref l]) Q E s:=by
 ¶Calls.call_function_entry kind_sorted plain_sorted entry_sorted (args_sorted1 _) ?_;unfold Builtin.«sorted»;¶wpAny_bind (m:=checkCount "sorted" 1 1 _) (wpAny_pure ?_);¤go:∀{Q':List Value→Shared→Prop},Q' vs { s with heap:=(s.heap.push (seqObj "list" #[] 0)).update s.heap.objs.size (Obj.mapSeq (·++vs.toArray)) }→wpAny (model prog w) A.in1 (collect (.ref l)) Q' E s:=λ{Q'} q=>by
  rcases hl with hl | hl
  ·§collect_list hl q sz
  ·§Bd hl q sz
 ¶wpAny_bind (go ?_);¶wpAny_bind (wpAny_newList ?_ sz);¤hsz:((s.heap.push (seqObj "list" #[] 0)).update s.heap.objs.size (Obj.mapSeq (·++vs.toArray))).objs.size=s.heap.objs.size+1:=by
  rw[Heap.size_update,size_push']
 ¤hoL:(eh s.heap vs).get? (s.heap.objs.size+1)=some (seqObj "list" vs.toArray 0):=by
  unfold eh;rw[←hsz];§Heap.get?_push_size _ rfl
 show wpAny _ _ _ _ _ { s with heap:=eh s.heap vs }
 rw[hsz];¶wpAny_bind (wpAny_holding (wpAny_call_entry slot_list_sort ⟨_,hoL,rfl⟩ entry_list_sort (vf (s:={ s with heap:=eh s.heap vs }) hoL sz hr ask λp hp hi=>⟨_,rfl,?_⟩) (args_list_sort _)));§wpAny_pure ⟨_,rfl,h p hp hi⟩
end
end L2.Srt
namespace L2
open PySem PySem.Spec PyProof.Rows Srt
section
variable {X:Cx}
theorem og:gw X (.builtin "sorted") (λxs H Q=>∃p ys rk,xs=[.ref p]∧(SqL X.K H p ys∨SqT X.K H p ys)∧ys.length≤100000∧En X.prog X.w X.A.in1.in1 H ys rk∧(∀i j,i < ys.length→j < ys.length→ys.getD i .non=ys.getD j .non→rk i=rk j)∧
  ∀(l:Addr) (is:List Nat),is.Perm (List.range ys.length)→(∀i j,i≤j→j < ys.length→rk (is.getD i 0)≤rk (is.getD j 0))→H l=none→Q (.ref l) (upd H l (.lst (is.map λi=>ys.getD i .non)))):=by
 ¿pins s σ H xs us Q I r h;£⟨p,ys,rk,rfl,hq,h64,ho,hal,q⟩:=h;£⟨u,rfl,rx⟩:=vals1 r;cases rx
 ¤sz:=sizeLine_eq;£⟨its,r',hl⟩:∃its,Vals ys its∧(s.heap.IsList p its.toArray∨s.heap.IsTuple p its.toArray):=by
  rcases hq with hq | hq
  ·£⟨its,r',pl,_⟩:=I.list hq;§⟨its,r',.inl pl.isList⟩
  ·£⟨its,r',pl,_⟩:=I.tuple hq;§⟨its,r',.inr pl⟩
 ¤hlen:=r'.length;¤at':∀i,i < ys.length→RelV (ys.getD i .non) (its.getD i Value.none):=λi hi=>by
  £⟨u,hu,ru⟩:=r'.get (List.getElem?_eq_getElem hi);rw[List.getD_eq_getElem?_getD,List.getElem?_eq_getElem hi,List.getD_eq_getElem?_getD,hu];§ru
 ¶Qh (r:=rk) hl ¥ (λi j hi hj e=>?_) (λh2=>?_) λis hp hi=>?_
 ·¤h1:=at' i ¥;¤h2:=at' j ¥;rw[e] at h1;§hal i j ¥ ¥ (h1.inj h2)
 ·§ho { s with heap:=de (eh s.heap its) (s.heap.objs.size+1) its } its (I.hok.kept λb o e=>Nr e) r' h2
 ·£⟨e,he⟩:=sortedAll_at s.heap its (List.toArray (is.map λi=>its.getD i Value.none));¤hp':is.Perm (List.range ys.length):=by rw[hlen];§hp
  ¤hin:∀i∈is,i < ys.length:=λi hi=>List.mem_range.mp (hp'.mem_iff.mp hi);¤hz:(is.map λi=>ys.getD i V.non).length≤sizeLine:=by
   rw[List.length_map,hp'.length_eq,List.length_range];¡
  §⟨.ref (s.heap.objs.size+1),_,I.laid (t':=s.toks) (λb o e=>sortedAll_old e) (Nat.le_succ _) (show br X.prog X.w _ _ _ (.lst (is.map λi=>ys.getD i V.non)) from ⟨hz,_,e,qm r' _ hin,he⟩),rfl,q _ _ hp' (λi j hij hj=>hi i j hij ¥) (I.hok.fresh (Nat.le_succ _))⟩
end
end L2
namespace L2
open PySem PySem.Spec PyProof.Rows Srt
theorem b_max:bootBuiltins "max"=some (.builtin "max"):=by decide+kernel
section
variable {X:Cx}
end
end L2
namespace L2.Srt
open PySem PySem.W PyProof.Rows PySem.Spec Itm
section
variable {prog:Program} {w:World} {A:Around} {E:Value→Shared→Prop} {s:Shared} {d:Addr} {es:Array DictEntry} {ep:Nat} {o:Obj}
theorem Raw.at' {h h':Heap} (r:Raw h d es ep o) (k:∀o,h.get? d=some o→h'.get? d=some o):Raw h' d es ep o:=⟨k _ r.there,r.exact',r.data⟩
theorem Hd (hh:A.handled=none) (I:Addr) (hne:d≠I) (hd:(d==sysModules)=false):
  Walks prog w A I [I,d] [I] es.size (λi v=>∃e,es[i]?=some e∧v=e.key) (λi h=>h.IsKeyIter I d i es.size ep∧Raw h d es ep o) where
 sub:=λb hb=>by simp at hb;simp[hb]
 frame:=λi h h' st hk=>by
  £⟨⟨oi,ho,hc,hf⟩,r⟩:=st;§⟨⟨oi,hk I (by simp) _ ho,hc,hf⟩,Raw.at' r λo e=>hk d (by simp) o e⟩
 item:=λi s Q E hi st hQ=>by
  £⟨hit,r⟩:=st;¶yw hit r (Array.getElem?_eq_getElem hi) λh' st' sb=>?_;§hQ _ h' s.toks ⟨_,Array.getElem?_eq_getElem hi,rfl⟩ ⟨st',Raw.at' r λo e=>(sb.2 d hne).trans e⟩ λb o hb e=>(sb.2 b (λz=>hb (by rw[z];§List.mem_singleton.mpr rfl))).trans e
 done:=λs Q E st hQ=>by
  £⟨hit,r⟩:=st;¶Ca hh hit r (Nat.le_refl _) λh' eb=>hQ h' s.toks λb o hb e=>eb b o (λz=>hb (by rw[z];§List.mem_singleton.mpr rfl)) e
 self:=λi s Q E st h=>wpAny_pyIter_keyiter st.1 h
theorem P8 (hd:(d==sysModules)=false):KdlSrc prog w "dict" d d es.size (λi v=>∃e,es[i]?=some e∧v=e.key) (λh=>Raw h d es ep o) where
 type:=λ_ r=>Raw.typeIs r
 there:=λ_ r=>⟨Heap.lt_size r.there,Heap.lt_size r.there⟩
 keep:=λ_ _ r hk=>Raw.at' r λo e=>hk d (.inl rfl) o e
 notList:=by decide
 notTuple:=by decide
 hint:=λ_ _ _ _ r hq=>kdl_hint_dict (Raw.typeIs r) hq
 iter:=λ_ _ hh r=>⟨_,_,(λ_ _ hq=>x5 hd r hq),Hd hh _ (Nat.ne_of_lt (Heap.lt_size r.there)) hd,⟨⟨_,Heap.get?_push_size _ rfl,rfl,rfl⟩,Raw.at' r λo e=>Heap.get?_push_of_some _ e⟩⟩
theorem Bs {Q:List Value→Shared→Prop} (hd:(d==sysModules)=false) (r:Raw s.heap d es ep o) (hh:A.handled=none) (hsz:es.size≤sizeLine)
  (h:∀h' tk (acc:Array Value),(∀b o,s.heap.get? b=some o→h'.get? b=some o)→s.heap.objs.size < h'.objs.size→ItemsOf (λi v=>∃e,es[i]?=some e∧v=e.key) acc es.size→Q acc.toList { s with heap:=h',toks:=tk }):
  wpAny (model prog w) A (collect (.ref d)) Q E s:=by
 ¤hdl:d < s.heap.objs.size:=Heap.lt_size r.there;¤pl:plainId "list.__iadd__"=true:=by decide+kernel
 ¤key:∀R:Result→Shared→Prop,(∀h' tk (acc:Array Value) c,(∀b o,b≠s.heap.objs.size→(s.heap.push (seqObj "list" #[] 0)).get? b=some o→h'.get? b=some o)→h'.get? s.heap.objs.size=some { cls:=.type "list",dict:=none,data:=.seq acc c,slots:=#[] }→
   ItemsOf (λi v=>∃e,es[i]?=some e∧v=e.key) acc es.size→R (.ok (.ret (.ref s.heap.objs.size))) { s with heap:=h',toks:=tk })→
   codeAny (model prog w) A (.builtin "list.__iadd__" ⟨[.ref s.heap.objs.size,.ref d],[]⟩) R { s with heap:=s.heap.push (seqObj "list" #[] 0) }:=by
  ¿R hR;¶codeAny_builtin entry_list_iadd' ?_;rw[Around.under_plainId pl _];§kdl_extend (s:={ s with heap:=s.heap.push (seqObj "list" #[] 0) }) (P8 hd) hh (Raw.at' r λo e=>Heap.get?_push_of_some _ e) s.heap.objs.size (Nat.ne_of_gt hdl) (Nat.ne_of_gt hdl) _ 0 (Heap.get?_push_size _ rfl) (λh' tk acc c hk hS hacc=>hR h' tk acc c hk hS hacc) hsz
 unfold collect;¶wpAny_bind (wpAny_runValue (codeAny_builtin entry_proto_collect' ?_));show wpAny _ _ (newList [] >>=λv=>again (.builtin "list.__iadd__" ⟨[v,.ref d],[]⟩)) _ _ s
 ¶wpAny_bind (wpAny_newList (wpAny_pure ⟨Code.quiet_builtin _ (by decide+kernel),key _ λh' tk acc c hk hS hacc=>?_⟩));¶wpAny_bind (wpAny_load hS ?_);§wpAny_pure (h h' tk acc (λb o e=>hk b o (Nat.ne_of_lt (Heap.lt_size e)) (Heap.get?_push_of_some _ e)) (Heap.lt_size hS) hacc)
end
end L2.Srt
namespace L2
open PySem PySem.Spec PyProof.Rows Srt Itm
section
variable {X:Cx}
theorem getD_map {α β:Type} (f:α→β) (l:List α) (i:Nat) (d:α) (d':β) (h:i < l.length):(l.map f).getD i d'=f (l.getD i d):=by
 rw[List.getD_eq_getElem?_getD,List.getElem?_map,List.getD_eq_getElem?_getD,List.getElem?_eq_getElem h];rfl
theorem om (hc:X.calm=true):gw X (.builtin "sorted") (λxs H Q=>∃p kvs,xs=[.ref p]∧H p=some (.dT kvs)∧kvs.length≤100000∧
  ∀ts:List Addr,ts.length=kvs.length→(∀(i:Nat) (k:List Key) (v:V),kvs[i]?=some (k,v)→∃t,ts[i]?=some t∧H t=some (.tup (k.map kV)))→∃rk,En X.prog X.w X.A.in1.in1 H (ts.map V.ref) rk∧(∀i j,i < ts.length→j < ts.length→ts.getD i 0=ts.getD j 0→rk i=rk j)∧
  ∀(l:Addr) (is:List Nat),is.Perm (List.range ts.length)→(∀i j,i≤j→j < ts.length→rk (is.getD i 0)≤rk (is.getD j 0))→H l=none→Q (.ref l) (upd H l (.lst (is.map λi=>V.ref (ts.getD i 0))))):=by
 ¿pins s σ H xs us Q I r h;£⟨p,kvs,rfl,hp,h64,q⟩:=h;£⟨u,rfl,rx⟩:=vals1 r;cases rx
 ¤sz:=sizeLine_eq;£⟨o,es,ep,hdat,raw,I2⟩:=I.Fx hp;¤hd:=(J4 I.hok hp).2.1;£⟨es',ep',hdat',raw',hsz,get⟩:=Aa I2.hok (show upd H p (.frz o (.dT kvs)) p=some (.frz o (.dT kvs)) from ae);rw[hdat] at hdat';cases hdat'
 £⟨ts,tl,ht⟩:∃ts:List Addr,ts.length=kvs.length∧∀(i:Nat) (k:List Key) (v:V),kvs[i]?=some (k,v)→∃t,ts[i]?=some t∧H t=some (.tup (k.map kV))∧∃u j,es[i]?=some ⟨j,.ref t,u⟩:=by
  ¶⟨(List.range kvs.length).map λi=>match (es[i]?).map (λe:DictEntry=>e.key) with | some (Value.ref t)=>t | _=>0,by rw[List.length_map,List.length_range],λi k v hi=>?_⟩;£⟨t,u,j,e1,e2,e3⟩:=get i k v hi;¤hil:=(List.getElem?_eq_some_iff.mp hi).1;¶⟨t,?_,?_,u,j,e1⟩
  ·rw[List.getElem?_map,List.getElem?_range hil];show some (match (es[i]?).map (λe:DictEntry=>e.key) with | some (Value.ref t)=>t | _=>0)=some t
   rw[e1];rfl
  ·have:t≠p:=λz=>by rw[z,ae] at e2;cases e2
   rw[af this] at e2;§e2
 £⟨rk,ho,hal,q⟩:=q ts tl λi k v hi=>by
  £⟨t,a,b,_⟩:=ht i k v hi;§⟨t,a,b⟩
 ¶Calls.call_function_entry kind_sorted plain_sorted entry_sorted (args_sorted1 _) ?_;unfold Builtin.«sorted»;¶wpAny_bind (m:=checkCount "sorted" 1 1 _) (wpAny_pure ?_);¶wpAny_bind (Bs hd raw (I.ok.hd hc) ¥ λh1 tk acc keep hlt1 hacc=>?_);¤el:acc.toList.length=ts.length:=by rw[show acc.toList.length=acc.size from Array.length_toList,hacc.1];¡
 ¤ev:acc.toList=ts.map Value.ref:=by
  ¶List.ext_getElem (by rw[List.length_map,el]) λi hi1 hi2=>?_;¤hik:i < kvs.length:=by ¡
  £⟨t,a,b,u,j,c⟩:=ht i kvs[i].1 kvs[i].2 (List.getElem?_eq_getElem hik);¤hia:i < acc.size:=by rw[hacc.1];¡
  £⟨e,h2,h3⟩:=hacc.2 i acc[i] (Array.getElem?_eq_getElem hia);rw[c] at h2;cases h2
  rw[List.getElem_map,Array.getElem_toList,h3];show Value.ref t=Value.ref ts[i]
  rw[List.getElem?_eq_getElem ¥] at a;rw[Option.some.inj a]
 ¤va:Vals (ts.map V.ref) acc.toList:=by rw[ev];§qj ts
 ¶wpAny_bind (wpAny_newList ?_ ¥);¤hoL:(h1.push (seqObj "list" acc.toList.toArray 0)).get? h1.objs.size=some (seqObj "list" acc.toList.toArray 0):=Heap.get?_push_size _ rfl;¤mo:∀b o,s.heap.get? b=some o→(de (h1.push (seqObj "list" acc.toList.toArray 0)) h1.objs.size acc.toList).get? b=some o:=λb o e=>by
  ¤hb:=keep b o e;¤hlt:b < h1.objs.size:=Heap.lt_size hb;¤s1:(h1.push (seqObj "list" acc.toList.toArray 0)).objs.size=h1.objs.size+1:=size_push' _ _;unfold de;rw[Heap.get?_push_ne _ _ _ (by rw[size_push',Heap.size_update,s1];§Nat.ne_of_lt (Nat.lt_of_lt_of_le hlt ¥)),Heap.get?_push_ne _ _ _ (by rw[Heap.size_update,s1];§Nat.ne_of_lt (Nat.lt_of_lt_of_le hlt ¥)),Heap.get?_update_ne _ _ _ _ (Nat.ne_of_lt hlt),Heap.get?_push_ne _ _ _ (Nat.ne_of_lt hlt)];§hb
 ¤gd:∀i,i < ts.length→acc.toList.getD i Value.none=.ref (ts.getD i 0):=λi hi=>by rw[ev,getD_map Value.ref ts i 0 Value.none hi]
 ¶wpAny_bind (wpAny_holding (wpAny_call_entry slot_list_sort ⟨_,hoL,rfl⟩ entry_list_sort (vf (r:=rk) hoL ¥ (λi j hi hj e=>?_) (λh2=>ho _ _ (I.hok.kept mo) va h2) λis hp' hi=>⟨_,rfl,?_⟩) (args_list_sort _)))
 ·rw[gd i ¥,gd j ¥] at e;§hal i j ¥ ¥ (Value.ref.inj e)
 ¶wpAny_pure ⟨_,rfl,?_⟩;¤hz1:s.heap.objs.size≤h1.objs.size:=Nat.le_of_lt hlt1;£⟨e,he⟩:=Hx (h:=h1) (vs:=acc.toList) (out:=List.toArray (is.map λi=>acc.toList.getD i Value.none));rw[el] at hp';¤hin:∀i∈is,i < (ts.map V.ref).length:=λi hi=>by rw[List.length_map];§List.mem_range.mp (hp'.mem_iff.mp hi)
 ¤hz:(is.map λi=>(ts.map V.ref).getD i V.non).length≤sizeLine:=by
  rw[List.length_map,hp'.length_eq,List.length_range];¡
 ¤eq:(is.map λi=>(ts.map V.ref).getD i V.non)=is.map λi=>V.ref (ts.getD i 0):=List.map_congr_left λi hi=>getD_map V.ref ts i 0 V.non (List.mem_range.mp (hp'.mem_iff.mp hi));rw[eq] at hz;¶⟨.ref h1.objs.size,_,I.laid (λb o e=>Cz (keep b o e)) hz1 (show br X.prog X.w _ _ _ (.lst (is.map λi=>V.ref (ts.getD i 0))) from ⟨hz,_,e,by rw[←eq];§qm va _ hin,he⟩),rfl,q _ _ hp' (λi j hij hj=>hi i j hij ¥) (I.hok.fresh hz1)⟩
end
end L2
namespace L2.Srt
open PySem PySem.W PyProof.Rows
theorem km {M:Model} {h:Heap} {T:Value}:∀(vs:List Value),(∀v∈vs,∃a o xs n f,v=Value.ref a∧h.get? a=some o∧o.cls=.type "tuple"∧o.data=.seq xs n∧xs[0]?=some f∧Looks M h (typeOf f) T)→
  ∃fs,KatTups h vs fs∧fs.length=vs.length∧∀f∈fs,Looks M h (typeOf f) T
 | [],_=>⟨[],trivial,rfl,λ_ h=>nomatch h⟩
 | v::vs,hv=>by
  £⟨fs,k,e,l⟩:=km vs λu hu=>hv u (List.mem_cons_of_mem _ hu);£⟨a,o,xs,n,f,ev,ho,hc,hd,hf,hl⟩:=hv v List.mem_cons_self;¶⟨f::fs,⟨⟨a,o,xs,n,ev,ho,hc,hd,hf⟩,k⟩,by rw[List.length_cons,List.length_cons,e],λg hg=>?_⟩;rcases List.mem_cons.mp hg with rfl | hg
  ·§hl
  ·§l g hg
end L2.Srt
namespace L2
open PySem PySem.Spec PyProof.Rows Srt
noncomputable def ltK (a b:Int×Str):Bool:=if a.1=b.1 then ltS a.2 b.2 else decide (a.1 < b.1)
theorem t4 (a:Int×Str):ltK a a=false:=by
 unfold ltK;rw[if_pos rfl,lg]
theorem sv (a b:Int×Str):ltK a b=true∨a=b∨ltK b a=true:=by
 £⟨a1,a2⟩:=a;£⟨b1,b2⟩:=b;unfold ltK;dsimp only;¦e:a1=b1
 ·subst e;rw[if_pos rfl,if_pos rfl];rcases zz a2 b2 with h | h | h
  ·§.inl h
  ·§.inr (.inl (by rw[h]))
  ·§.inr (.inr h)
 ·rw[if_neg e,if_neg λz=>e z.symm];¦h:a1 < b1
  ·§.inl (decide_eq_true h)
  ·§.inr (.inr (decide_eq_true ¥))
theorem qf {a b c:Int×Str} (h1:ltK a b=true) (h2:ltK b c=true):ltK a c=true:=by
 £⟨a1,a2⟩:=a;£⟨b1,b2⟩:=b;£⟨c1,c2⟩:=c;unfold ltK at h1 h2 ⊢;dsimp only at h1 h2 ⊢;¦e1:a1=b1
 ·subst e1;rw[if_pos rfl] at h1;¦e2:a1=c1
  ·rw[if_pos e2] at h2 ⊢;§vi h1 h2
  ·rw[if_neg e2] at h2 ⊢;§h2
 ·rw[if_neg e1] at h1;¤h1:=of_decide_eq_true h1;¦e2:b1=c1
  ·subst e2;rw[if_neg e1];§decide_eq_true h1
  ·rw[if_neg e2] at h2;¤h2:=of_decide_eq_true h2;rw[if_neg ¥];§decide_eq_true ¥
theorem Qp {a c:Int×Str} (b:Int×Str) (h:ltK a c=true):ltK a b=true∨ltK b c=true:=by
 rcases sv a b with e | e | e
 ·§.inl e
 ·subst e;§.inr h
 ·§.inr (qf e h)
theorem E6 (ks:List (Int×Str)) (d:Int×Str):Ord ks.length λi j=>ltK (ks.getD i d) (ks.getD j d):=⟨λ_ _=>t4 _,λ_ _ _ _ _ _ a b=>qf a b,λ_ j _ _ _ _ a=>Qp _ a⟩
section
variable {P:Program} {w:World} {A:Around} {H:Hp}
theorem Nn {ts:List Addr} {ks:List (Int×Str)} {d:Int×Str} (hl:ts.length=ks.length) (hR:∀i,i < ks.length→H (ts.getD i 0)=some (.tup [.int (ks.getD i d).1,.str (ks.getD i d).2])):En P w A H (ts.map V.ref) (rank ks.length λi j=>ltK (ks.getD i d) (ks.getD j d)):=by
 ¿s vs hok r h2;¤hlen:=r.length;rw[List.length_map] at hlen;¤o:=E6 ks d;¤row:∀i,i < ks.length→∃(t:Addr) (tk tk':Nat),vs.getD i Value.none=.ref t∧s.heap.IsTuple t [Value.int (ks.getD i d).1 tk,Value.str (ks.getD i d).2 tk'].toArray:=λi hi=>by
  ¤hi2:i < ts.length:=by ¡
  £⟨u,hu,ru⟩:=r.get (i:=i) (x:=V.ref (ts.getD i 0)) (by rw[List.getElem?_map,List.getD_eq_getElem?_getD,List.getElem?_eq_getElem hi2];rfl);cases (show u=Value.ref (ts.getD i 0) from ru)
  £⟨_,its,ri,pi⟩:=vz hok (hR i hi);cases ri with
  | cons r1 rr=>
   cases rr with
   | cons r2 rr=>
    cases rr
    £⟨tk,rfl⟩:=r1;£⟨tk',rfl⟩:=r2;§⟨_,tk,tk',by rw[List.getD_eq_getElem?_getD,hu];rfl,pi⟩
 £⟨firsts,kt,kl,kT⟩:=km (M:=model P w) (h:=s.heap) (T:=.type "int") vs λv hv=>by
  £⟨i,hi,e⟩:=List.mem_iff_getElem.mp hv;£⟨t,tk,tk',et,⟨ob,ho,hc,n,hd⟩⟩:=row i ¥;rw[List.getD_eq_getElem?_getD,List.getElem?_eq_getElem hi] at et;¶⟨t,ob,_,n,.int (ks.getD i d).1 tk,by rw[←e];§et,ho,hc,hd,rfl,?_⟩;§.now
 ¶PySem.W.kat_kind kt ¥ kT (by rfl) ⟨rfl,λi j C hi hj hC=>?_⟩;rw[o.rank ¥ ¥] at hC;£⟨t,tk,tk',et,pt⟩:=row i ¥;£⟨u,uk,uk',eu,pu⟩:=row j ¥;£⟨ob,ho,hc,n,hd⟩:=id pt;£⟨ob',ho',hc',n',hd'⟩:=id pu;generalize ks.getD i d=a at*;generalize ks.getD j d=b at*;show wpAny (model P w) A (keyLt' (tuples' true) _ _) C _ s
 rw[et,eu];¶PySem.W.kat_lt (b:=true) ho hd ho' hd' ?_;show PySem.W.KatLex P w A true (decide (2 < 2)) C [(.int a.1 tk,.int b.1 uk),(.str a.2 tk',.str b.2 uk')] 0 s
 unfold ltK at hC;¶PySem.W.kat_cons (SeqAt.EqAt.int_int _ _ _ _ _ _ _ _ ?_);¦e:a.1=b.1
 ·rw[show (a.1==b.1)=true by rw[e];§beq_self_eq_true _];rw[if_pos e] at hC;¶PySem.W.kat_yes (PySem.W.kat_cons (SeqAt.EqAt.str_str _ _ _ _ _ _ _ _ ?_));¦e2:a.2=b.2
  ·rw[show (a.2==b.2)=true by rw[e2];§beq_self_eq_true _];rw[e2,lg] at hC;§PySem.W.kat_yes (PySem.W.kat_nil hC)
  ·rw[show (a.2==b.2)=false from beq_eq_false_iff_ne.mpr e2];§PySem.W.kat_no (PySem.W.kat_one _ _ (SeqAt.LtAt.str _ _ _ _ hC))
 ·rw[show (a.1==b.1)=false from beq_eq_false_iff_ne.mpr e];rw[if_neg e] at hC;§PySem.W.kat_no (oneLt_int hC)
end
end L2
namespace L2
open PySem PySem.Spec PyProof.Rows
theorem Kp {a:Addr} {o:Obj} {kvs:List (List Key×V)} {fr:St} {tc:TT} {te:TE} {D:Addr} {H1:Hp} {Q:Hp→Prop} (P:Nat→List V→Hp→Prop) (mono:∀i ys H H',(∀b u,b≠D→H b=some u→H' b=some u)→P i ys H→P i ys H') (ha:H1 a=some (.frz o (.dT kvs))) (hn:kvs.length < sizeLine) (hD:H1 D=none) (h0:P 0 [] H1)
  (step:∀i t k v ys H (G:Hp→Prop) (K':V→Hp→Prop),kvs[i]?=some (k,v)→H t=some (.tup (k.map kV))→P i ys H→H D=some (.lst ys)→ys.length≤i→ak H1 H→(∀H3,ak H H3→P (i+1) ys H3→G H3)→(∀y H4,ak H H4→P (i+1) (ys++[y]) H4→K' y H4)→tc ([some (.ref t)]++fr) H λb H3=>if b=true then te ([some (.ref t)]++fr) H3 K' else G H3)
  (done:∀ys H,P kvs.length ys H→ys.length≤kvs.length→ak H1 H→H D=some (.lst ys)→Q H):LC 1 fr (cj 0) tc te (Itq a o kvs) D H1 Q:=by
 ¶⟨λi m H=>m=kvs.length - i∧i≤kvs.length∧∃ys,H D=some (.lst ys)∧P i ys H∧ys.length≤i∧ak H1 H,⟨kvs.length,by simp,Nat.zero_le _,[],ae,mono _ _ _ _ (λb u _ h=>aa hD _ _ _ h) h0,Nat.le_refl _,aa hD _⟩,?_⟩;rintro i m H ⟨rfl,hi,ys,hys,hP,hl,hS⟩;¦hlt:i < kvs.length
 ·¶.inr ⟨⟨hlt,hS _ _ ha⟩,λτ x H' hτ hy=>?_⟩;£⟨e1,t,k,v,hk,ht,rfl⟩:=hy;subst e1;£⟨b,rfl⟩:∃b,τ=[b]:=List.length_eq_one_iff.mp hτ;¶⟨⟨[some (.ref t)],rfl,rfl⟩,step i t k v ys H' _ _ hk ht hP hys hl hS (λH3 q1 q2=>?_) (λy H4 q1 q2=>?_)⟩
  ·§⟨kvs.length - (i+1),¥,rfl,hlt,ys,q1 _ _ hys,q2,Nat.le_succ_of_le hl,hS.trans q1⟩
  ·¶⟨ys,q1 _ _ hys,¥,kvs.length - (i+1),¥,rfl,hlt,ys++[y],ae,mono _ _ _ _ (λb u hb h=>by rw[af hb];§h) q2,?_,(hS.trans q1).upd hD _⟩;rw[List.length_append,List.length_singleton];¡
 ·¤e:i=kvs.length:=by ¡
  subst e;§.inl ⟨⟨rfl,hS _ _ ha⟩,done ys H hP hl hS hys⟩
end L2
namespace Pc
open PySem PySem.Spec L2 PyProof.Rows Fm
structure Lf where
 place:Nat
 r:Rl
 hs:List Ky
noncomputable def ie (f:Lf):Ft Ky:=⟨(f.place,f.r.kind),f.r.price,f.hs⟩
def LfAt (H:Hp) (no:Addr→Prop) (a:Addr) (f:Lf):Prop:=∃ra hl,¬no hl∧H a=some (.tup [.ref ra,.int (f.place:Int),.ref hl])∧fj H ra f.r∧mr H hl f.hs
def cq (H:Hp) (no:Addr→Prop) (as:List Addr) (fs:List Lf):Prop:=as.length=fs.length∧∀(j:Nat) (f:Lf),fs[j]?=some f→∃a,as[j]?=some a∧LfAt H no a f
theorem fj.kx {no:Addr→Prop} {H H':Hp} {a:Addr} {r:Rl} (h:fj H a r) (x:Kx no H H'):fj H' a r:=by
 £⟨sa,da,ds,h1,h2,h3⟩:=h;§⟨sa,da,ds,x.t h1,x.t h2,x.t h3⟩
theorem LfAt.kx {no:Addr→Prop} {H H':Hp} {a:Addr} {f:Lf} (h:LfAt H no a f) (x:Kx no H H'):LfAt H' no a f:=by
 £⟨ra,hl,g2,g3,g4,g5⟩:=h;§⟨ra,hl,g2,x.t g3,g4.kx x,g5.kx x g2⟩
theorem cq.kx {no:Addr→Prop} {H H':Hp} {as:List Addr} {fs:List Lf} (h:cq H no as fs) (x:Kx no H H'):cq H' no as fs:=⟨h.1,λj f e=>by
 £⟨a,g1,g2⟩:=h.2 j f e;§⟨a,g1,g2.kx x⟩⟩
theorem cq.same {no:Addr→Prop} {H H':Hp} {as:List Addr} {fs:List Lf} (h:cq H no as fs) (s:ak H H'):cq H' no as fs:=h.kx (Kx.same s)
theorem cq.weak {no no':Addr→Prop} {H:Hp} {as:List Addr} {fs:List Lf} (h:cq H no as fs) (w:∀x,no' x→no x):cq H no' as fs:=⟨h.1,λj f e=>by
 £⟨a,g1,ra,hl,g2,g3⟩:=h.2 j f e;§⟨a,g1,ra,hl,λz=>g2 (w _ z),g3⟩⟩
theorem cq.snoc {no:Addr→Prop} {H:Hp} {as:List Addr} {fs:List Lf} {a:Addr} {f:Lf} (h:cq H no as fs) (hf:LfAt H no a f):cq H no (as++[a]) (fs++[f]):=by
 ¶⟨by rw[List.length_append,List.length_append,h.1];rfl,λi f' hi=>?_⟩;¦c:i < fs.length
 ·rw[List.getElem?_append_left c] at hi;£⟨a',g1,g2⟩:=h.2 i f' hi;§⟨a',by rw[List.getElem?_append_left (by rw[h.1];§c)];§g1,g2⟩
 ·rw[List.getElem?_append_right ¥] at hi;¤hz:i - fs.length=0:=by
   rcases Nat.eq_zero_or_pos (i - fs.length) with g | g
   ·§g
   ·rw[List.getElem?_eq_none (by rw[List.length_singleton];¡)] at hi;cases hi
  rw[hz] at hi;cases hi
  §⟨a,by rw[List.getElem?_append_right (by rw[h.1];¡),h.1,hz];rfl,hf⟩
theorem cq.nil (H:Hp) (no:Addr→Prop):cq H no [] []:=⟨rfl,λj f h=>by simp at h⟩
theorem cq.get {no:Addr→Prop} {H:Hp} {as:List Addr} {fs:List Lf} (h:cq H no as fs) {i:Nat} {a:Addr} (ha:as[i]?=some a):∃f,fs[i]?=some f∧LfAt H no a f:=by
 ¤hi:i < fs.length:=by rw[←h.1];§(List.getElem?_eq_some_iff.mp ha).1
 £⟨a',h1,h2⟩:=h.2 i _ (List.getElem?_eq_getElem hi);£rfl:a'=a:=Option.some.inj (h1.symm.trans ha);§⟨_,List.getElem?_eq_getElem hi,h2⟩
noncomputable def i9 (kinds:List Str) (ws:List V) (p:Nat) (r:Rl):Option Lf:=(dy kinds ws r.shape p ⟨[],[],[]⟩).map λu=>⟨p,r,u.hs.zip (ba kinds r.shape)⟩
noncomputable def xo (kinds:List Str) (rs:List Rl) (ws:List V) (p:Nat):List Lf:=rs.filterMap (i9 kinds ws p)
noncomputable def Ah (kinds:List Str) (rs:List Rl) (ws:List V) (i:Nat):List Lf:=(List.range i).flatMap λb=>xo kinds rs ws (ws.length - 1 - b)
noncomputable def i5 (kinds:List Str) (rs:List Rl) (ws:List V):List Lf:=Ah kinds rs ws ws.length
theorem qt (kinds:List Str) (rs:List Rl) (ws:List V) (i:Nat):Ah kinds rs ws (i+1)=Ah kinds rs ws i++xo kinds rs ws (ws.length - 1 - i):=by
 unfold Ah;rw[List.range_succ,List.flatMap_append];simp
theorem Ga (kinds:List Str) (rs:List Rl) (ws:List V) (p:Nat):(xo kinds rs ws p).map ie=(bp kinds rs ws p).map (fm p):=by
 unfold xo bp;rw[List.map_filterMap,List.map_filterMap];congr 1
 funext r
 unfold i9 kg;rw[Option.map_map,Option.map_map];rfl
theorem lf_mem (kinds:List Str) (rs:List Rl) (ws:List V) (f:Ft Ky):f∈(i5 kinds rs ws).map ie↔f∈m8 kinds rs ws:=by
 unfold i5 Ah m8;rw[List.map_flatMap,List.mem_flatMap,List.mem_flatMap];constructor
 ·rintro ⟨b,hb,h⟩;rw[Ga] at h;have:=List.mem_range.mp hb;§⟨ws.length - 1 - b,List.mem_range.mpr ¥,h⟩
 ·rintro ⟨p,hp,h⟩;have:=List.mem_range.mp hp;¶⟨ws.length - 1 - p,List.mem_range.mpr ¥,?_⟩;rw[Ga,show ws.length - 1 - (ws.length - 1 - p)=p by ¡];§h
theorem Tbl.of_mem {κ:Type} [DecidableEq κ] {F F':List (Ft κ)} {g:κ→Option Int} (h:Tbl F g) (e:∀f,f∈F↔f∈F'):Tbl F' g:=⟨λf hf=>h.st f ((e f).mpr hf),λk v hv=>by
 £⟨f,hf,r⟩:=h.du k v hv;§⟨f,(e f).mp hf,r⟩,h.pos⟩
theorem wy (kinds:List Str) (rs:List Rl) (ws:List V) (hr:rs.length≤100):∀i,(Ah kinds rs ws i).length≤100*i
 | 0=>Nat.le_refl _
 | i+1=>by
  rw[qt,List.length_append];¤h1:=wy kinds rs ws hr i;¤h2:(xo kinds rs ws (ws.length - 1 - i)).length≤rs.length:=List.length_filterMap_le _ _;¡
theorem lf_own {kinds:List Str} {rs:List Rl} {ws:List V} (bk:Bk kinds rs):∀f∈i5 kinds rs ws,1≤f.r.price:=λf hf=>by
 £⟨b,_,h⟩:=List.mem_flatMap.mp hf;£⟨r,hr,e⟩:=List.mem_filterMap.mp h;£⟨u,_,rfl⟩:=Option.map_eq_some_iff.mp e;§bk.pr r hr
def TbK (H:Hp) (d:Addr) (g:Ky→Option Int) (ks:List Ky):Prop:=∃kvs:List (List Key×V),H d=some (.dT kvs)∧kvs.map (·.1)=ks.map kyK∧ks.Nodup∧∀k,dh kvs (kyK k)=(g k).map V.int
theorem TbK.tb {H:Hp} {d:Addr} {g:Ky→Option Int} {ks:List Ky} (h:TbK H d g ks):dc H d g ks.length:=by
 £⟨kvs,h1,h2,_,h3⟩:=h;have:=congrArg List.length h2;rw[List.length_map,List.length_map] at this;§⟨kvs,h1,¥,h3⟩
theorem TbK.at {H H':Hp} {d:Addr} {g:Ky→Option Int} {ks:List Ky} (h:TbK H d g ks) (e:∀o,H d=some o→H' d=some o):TbK H' d g ks:=by
 £⟨kvs,h1,h2⟩:=h;§⟨kvs,e _ h1,h2⟩
theorem TbK.same {H H':Hp} {d:Addr} {g:Ky→Option Int} {ks:List Ky} (h:TbK H d g ks) (s:ak H H'):TbK H' d g ks:=h.at λo e=>s _ _ e
theorem TbK.nil {H:Hp} {d:Addr}:TbK (upd H d (.dT [])) d (λ_=>none) []:=⟨[],ae,rfl,List.nodup_nil,λ_=>rfl⟩
theorem TbK.mem {H:Hp} {d:Addr} {g:Ky→Option Int} {ks:List Ky} (h:TbK H d g ks) (k:Ky):k∈ks↔(g k).isSome=true:=by
 £⟨kvs,h1,h2,h3,h4⟩:=h;¤e:(dh kvs (kyK k)).isSome=(g k).isSome:=by rw[h4 k];cases g k <;> rfl
 rw[←e,←fo,List.any_eq_true];constructor
 ·¿hk;have:kyK k∈kvs.map (·.1):=by rw[h2];§List.mem_map.mpr ⟨k,hk,rfl⟩
  £⟨p,hp,e⟩:=List.mem_map.mp this;§⟨p,hp,decide_eq_true e⟩
 ·rintro ⟨p,hp,e⟩;have:kyK k∈kvs.map (·.1):=List.mem_map.mpr ⟨p,hp,of_decide_eq_true e⟩;rw[h2] at this;£⟨k',hk',e'⟩:=List.mem_map.mp this;rw[←oy e'];§hk'
theorem TbK.put {H:Hp} {d b:Addr} {g:Ky→Option Int} {ks:List Ky} {k:Ky} {v:Int} (h:TbK H d g ks) (hb:H b=some (kyT k)) (hn:ks.length≤1000000):
  ∃o ks',vw H d (.ref b) (.int v) (upd H d o)∧TbK (upd H d o) d (gb g k v) ks'∧ks'.length≤if (g k).isSome then ks.length else ks.length+1:=by
 ¤hm:=h.mem k;£⟨kvs,h1,h2,nd,h3⟩:=h;¤sz:=sizeLine_eq;¤hl:kvs.length=ks.length:=by
  have:=congrArg List.length h2;rw[List.length_map,List.length_map] at this;§this
 ¤hk:=h3 k;¤val:∀j,dh (putK kvs (kyK k) (.int v)) (kyK j)=(gb g k v j).map V.int:=λj=>by
  rw[Cr];¦e:j=k
  ·subst e;rw[if_pos rfl,cf];rfl
  ·rw[if_neg (λz=>e (oy z)),dw e];§h3 j
 cases e:g k with
 | none=>
  rw[e] at hk;¶⟨_,ks++[k],vw.t (k:=kyK k) h1 hb ¥,⟨_,ae,?_,?_,val⟩,?_⟩
  ·rw[Cm _ hk,List.map_append,List.map_append,h2];rfl
  ·¶List.nodup_append.mpr ⟨nd,by simp,λa ha c hc e2=>?_⟩;rw[List.mem_singleton.mp hc] at e2;rw[e2] at ha;have:=hm.mp ha;rw[e] at this;cases this
  ·rw[List.length_append];simp
 | some w=>
  rw[e] at hk;¤ha:(kvs.any λkv=>decide (kv.1=kyK k))=true:=by rw[fo,hk];rfl
  ¶⟨_,ks,vw.t (k:=kyK k) h1 hb ¥,⟨_,ae,?_,nd,val⟩,?_⟩
  ·unfold putK;rw[if_pos ha,List.map_map,←h2];apply List.map_congr_left
   ¿p _;show (if _ then _ else _:List Key×V).1=p.1
   split
   ·rename_i c
    first | §(of_decide_eq_true c).symm | §c.symm | rfl
   ·rfl
  ·simp
theorem TbK.due {H:Hp} {d:Addr} {g:Ky→Option Int} {ks:List Ky} (h:TbK H d g ks):∀o,H d=some o→∃kvs,o=.dT kvs:=λo e=>by
 £⟨kvs,h1,_⟩:=h;rw[h1] at e;§⟨kvs,(Option.some.inj e).symm⟩
noncomputable def blAt2 (σ:List (Option V)):Nat:=match σ[2]? with
 | some (some (V.bl true))=>1
 | _=>0
noncomputable def dz (fs:List Lf) (g:Ky→Option Int) (k:Ky):List Str:=(fs.filter λf=>decide ((f.place,f.r.kind)=k∧cost g f.r.price f.hs=g k)).map (·.r.name)
theorem Ay {kinds:List Str} {rs:List Rl} {ws:List V} {g:Ky→Option Int} {p:Nat} {k:Str} {v:Int} (hv:g (p,k)=some v) (hp:p < ws.length):dz (i5 kinds rs ws) g (p,k)=namesW (bp kinds rs ws p) g k v:=by
 ¤one:∀q,((xo kinds rs ws q).filter λf=>decide ((f.place,f.r.kind)=(p,k)∧cost g f.r.price f.hs=g (p,k))).map (·.r.name)=if q=p then namesW (bp kinds rs ws p) g k v else []:=λq=>by
  ¤pl:∀f∈xo kinds rs ws q,f.place=q:=λf hf=>by
   £⟨r,hr,e⟩:=List.mem_filterMap.mp hf;£⟨u,_,rfl⟩:=Option.map_eq_some_iff.mp e;rfl
  ¦e:q=p
  ·subst e;rw[if_pos rfl];unfold xo bp namesW;rw[hv];induction rs with
   | nil=>rfl
   | cons r rs ih=>
    ¤ih:=ih λf hf=>pl f (by
     unfold xo at hf ⊢;rw[List.filterMap_cons];cases i9 kinds ws q r with
     | none=>§hf
     | some x=>§List.mem_cons_of_mem _ hf)
    rw[List.filterMap_cons,List.filterMap_cons];unfold i9 kg at ih ⊢;cases dy kinds ws r.shape q ⟨[],[],[]⟩ with
    | none=>§ih
    | some u=>
     show ((_::_:List Lf).filter _).map _=((_::_:List Fr).filter _).map _
     rw[List.filter_cons,List.filter_cons];¤c:decide (((⟨q,r,u.hs.zip (ba kinds r.shape)⟩:Lf).place,(⟨q,r,u.hs.zip (ba kinds r.shape)⟩:Lf).r.kind)=(q,k)∧cost g (⟨q,r,u.hs.zip (ba kinds r.shape)⟩:Lf).r.price (⟨q,r,u.hs.zip (ba kinds r.shape)⟩:Lf).hs=some v)=decide (r.kind=k∧cost g r.price (u.hs.zip (ba kinds r.shape))=some v):=decide_eq_decide.mpr ⟨λh=>⟨(Prod.mk.inj h.1).2,h.2⟩,λh=>⟨by rw[←h.1],h.2⟩⟩;rw[c];¦c2:r.kind=k∧cost g r.price (u.hs.zip (ba kinds r.shape))=some v
     ·rw[if_pos (decide_eq_true c2)];rw[if_pos (show decide (r.kind=k∧cost g r.price (u.hs.zip (ba kinds r.shape))=some v)=true from decide_eq_true c2),List.map_cons,List.map_cons,ih]
     ·rw[if_neg (by simpa using c2)];rw[if_neg (show ¬decide (r.kind=k∧cost g r.price (u.hs.zip (ba kinds r.shape))=some v)=true by simpa using c2)];§ih
  ·rw[if_neg e];have:(xo kinds rs ws q).filter (λf=>decide ((f.place,f.r.kind)=(p,k)∧cost g f.r.price f.hs=g (p,k)))=[]:=List.filter_eq_nil_iff.mpr λf hf c=>by
    have:=(Prod.mk.inj (of_decide_eq_true c).1).1;rw[pl f hf] at this;§e this
   rw[this];rfl
 ¤all:∀i,i≤ws.length→((Ah kinds rs ws i).filter λf=>decide ((f.place,f.r.kind)=(p,k)∧cost g f.r.price f.hs=g (p,k))).map (·.r.name)=if ws.length - 1 - p < i then namesW (bp kinds rs ws p) g k v else []:=by
  ¿i;induction i with
  | zero=>intro _;rw[if_neg (Nat.not_lt_zero _)];rfl
  | succ i ih=>
   ¿hi;rw[qt,List.filter_append,List.map_append,ih ¥,one];¦c:ws.length - 1 - p < i
   ·rw[if_pos c,if_neg (show ¬ws.length - 1 - i=p by ¡),if_pos (show ws.length - 1 - p < i+1 by ¡),List.append_nil]
   ·rw[if_neg c];¦c2:ws.length - 1 - i=p
    ·rw[if_pos c2,if_pos (show ws.length - 1 - p < i+1 by ¡)];rfl
    ·rw[if_neg c2,if_neg (show ¬ws.length - 1 - p < i+1 by ¡)];rfl
 have:=all ws.length (Nat.le_refl _);rw[if_pos ¥] at this;§this
theorem linK:Lin ltK:=⟨t4,qf,sv⟩
noncomputable def kyI (k:Ky):Int×Str:=((k.1:Int),k.2)
theorem Oc {a b:Ky} (h:kyI a=kyI b):a=b:=by
 £⟨a1,a2⟩:=a;£⟨b1,b2⟩:=b;¤h1:(a1:Int)=(b1:Int):=(Prod.mk.inj h).1;¤h2:a2=b2:=(Prod.mk.inj h).2;rw[show a1=b1 by ¡,h2]
theorem Bf {kinds:List Str} (rs:List Rl) (ws:List V) (g:Ky→Option Int):∀i,Srt ltK (((jl kinds rs ws g i).map ee).map kyI)∧∀k∈(jl kinds rs ws g i).map ee,k.1 < i
 | 0=>⟨List.Pairwise.nil,λk h=>nomatch h⟩
 | i+1=>by
  £⟨h1,h2⟩:=Bf rs ws g i;rw[iw,List.map_append,j4];¤one:∀k∈((cv kinds).filter λk=>(g (i,k)).isSome).map (λk=>(i,k)),k.1=i:=λk hk=>by
   £⟨z,_,rfl⟩:=List.mem_map.mp hk;rfl
  ¶⟨?_,λk hk=>?_⟩
  ·rw[List.map_append];¶List.pairwise_append.mpr ⟨h1,?_,λa ha b hb=>?_⟩
   ·rw[List.map_map];¶List.pairwise_map.mpr ?_;¤hs:Srt ltS ((cv kinds).filter λk=>(g (i,k)).isSome):=List.Pairwise.sublist List.filter_sublist (qg (linS.pre id) kinds);¶hs.imp λ{a b} h=>?_;show ltK ((i:Int),b) ((i:Int),a)=false
    unfold ltK;rw[if_pos rfl];§h
   ·£⟨a',ha',rfl⟩:=List.mem_map.mp ha;£⟨b',hb',rfl⟩:=List.mem_map.mp hb;have:=h2 a' ha';have:=one b' hb';show ltK ((b'.1:Int),b'.2) ((a'.1:Int),a'.2)=false
    unfold ltK;dsimp only;rw[if_neg ¥];§decide_eq_false ¥
  ·rcases List.mem_append.mp hk with m | m
   ·have:=h2 k m;¡
   ·have:=one k m;¡
theorem Io {kinds:List Str} {rs:List Rl} {ws:List V} {g:Ky→Option Int} (bk:Bk kinds rs) (T:Tbl (m8 kinds rs ws) g) {ks:List Ky} (nd:ks.Nodup) (hm:∀k,k∈ks↔(g k).isSome=true) {is:List Nat} (hp:is.Perm (List.range ks.length))
  (hs:∀i j,i≤j→j < ks.length→rank ks.length (λi j=>ltK ((ks.map kyI).getD i (0,"")) ((ks.map kyI).getD j (0,""))) (is.getD i 0)≤rank ks.length (λi j=>ltK ((ks.map kyI).getD i (0,"")) ((ks.map kyI).getD j (0,""))) (is.getD j 0)):
  is.map (λi=>ks.getD i (0,""))=(rowsOf kinds rs ws g).map ee:=by
 ¤hil:is.length=ks.length:=by rw[hp.length_eq,List.length_range]
 ¤hin:∀i∈is,i < ks.length:=λi hi=>List.mem_range.mp (hp.mem_iff.mp hi);¤e0:ks=(List.range ks.length).map λi=>ks.getD i (0,""):=by
  ¶List.ext_getElem (by rw[List.length_map,List.length_range]) λi h1 h2=>?_;rw[List.getElem_map,List.getElem_range,List.getD_eq_getElem?_getD,List.getElem?_eq_getElem h1];rfl
 ¤p1:(is.map λi=>ks.getD i (0,"")).Perm ks:=by
  have:=hp.map λi=>ks.getD i (0,"");rw[←e0] at this;§this
 ¤nd2:=(qb bk.kn rs ws g ws.length).1;¤p2:ks.Perm ((rowsOf kinds rs ws g).map ee):=by
  ¶(List.perm_ext_iff_of_nodup nd nd2).mpr λk=>?_;rw[hm k];constructor
  ·¿h;£⟨v,hv⟩:=Option.isSome_iff_exists.mp h;£⟨r,hr,h1,h2,_⟩:=Cc bk T hv;§List.mem_map.mpr ⟨r,hr,by unfold ee;rw[h1,h2]⟩
  ·¿h;£⟨r,hr,rfl⟩:=List.mem_map.mp h;have:=(vb hr).2.1;show (g (r.place,r.kind)).isSome=true
   rw[this];rfl
 ¤o:=E6 (ks.map kyI) (0,"");rw[List.length_map] at o;¤s1:Srt ltK ((is.map λi=>ks.getD i (0,"")).map kyI):=by
  rw[List.map_map];¶List.pairwise_map.mpr (List.pairwise_iff_getElem.mpr λi j hi hj hij=>?_);¤gi:∀i (h:i < is.length),is.getD i 0=is[i]:=λi h=>by rw[List.getD_eq_getElem?_getD,List.getElem?_eq_getElem h];rfl
  have:=hs i j ¥ ¥;rw[gi i hi,gi j hj] at this;¤b1:=hin is[i] (List.getElem_mem hi);¤b2:=hin is[j] (List.getElem_mem hj);¤q:=o.rank b2 b1;rw[decide_eq_false ¥] at q;rw[getD_map kyI ks _ (0,"") (0,"") b1,getD_map kyI ks _ (0,"") (0,"") b2] at q;§q.symm
 ¤s2:=(Bf (kinds:=kinds) rs ws g ws.length).1;have:=my linK ((p1.trans p2).map kyI) s1 s2;§(List.map_inj_right (λa b h=>Oc h)).mp this
def ud:Sp:=λvs H Q _=>∃(b wt:Addr) (kinds:List Str) (rs:List Rl) (ws:List V),vs=[.ref b,.ref wt]∧cy H b kinds rs∧H wt=some (.tup ws)∧Bk kinds rs∧Tw ws∧∀(l:Addr) (as:List Addr) (H':Hp),ak H H'→H l=none→H' l=some (.lst (as.map V.ref))→cq H' (λx=>H x≠none) as (i5 kinds rs ws)→Q (.ref l) H'
def n8:Sp:=λvs H Q _=>∃(ra hl d:Addr) (r:Rl) (hs:List Ky) (g:Ky→Option Int) (n:Nat),vs=[.ref ra,.ref hl,.ref d]∧fj H ra r∧mr H hl hs∧dc H d g n∧Q (.int ((cost g r.price hs).getD 0)) H
def ox:Sp:=λvs H Q _=>∃(fl:Addr) (as:List Addr) (fs:List Lf),vs=[.ref fl]∧H fl=some (.lst (as.map V.ref))∧cq H (λ_=>False) as fs∧fs.length≤1000000∧(∀f∈fs,1≤f.r.price)∧∀(d:Addr) (H':Hp) (g:Ky→Option Int) (ks:List Ky),ak H H'→H d=none→TbK H' d g ks→Tbl (fs.map ie) g→ks.length≤fs.length→Q (.ref d) H'
def RcAt (H:Hp) (fd:Addr) (ks:List Ky) (ls:List Addr) (nm:Ky→List Str):Prop:=H fd=some (.dT ((ks.zip ls).map λp=>(kyK p.1,V.ref p.2)))∧ls.length=ks.length∧∀(j:Nat) (k:Ky) (l:Addr),ks[j]?=some k→ls[j]?=some l→H l=some (.lst ((nm k).map V.str))
def pq:Sp:=λvs H Q _=>∃(fl d:Addr) (as:List Addr) (fs:List Lf) (g:Ky→Option Int) (ks:List Ky),vs=[.ref fl,.ref d]∧H fl=some (.lst (as.map V.ref))∧cq H (λ_=>False) as fs∧fs.length≤1000000∧TbK H d g ks∧ks.length≤1000000∧Tbl (fs.map ie) g∧∀(fd:Addr) (ls:List Addr) (H':Hp),ak H H'→H fd=none→RcAt H' fd ks ls (dz fs g)→Q (.ref fd) H'
theorem Od {κ:Type} [DecidableEq κ] {F:List (Ft κ)} {g:κ→Option Int} {f:Ft κ} (hf:f∈F) {c:Int} {m:Nat} (h:m≤if (g f.key).isSome then cnt F g else cnt F g+1):m≤cnt F (gb g f.key c):=by
 cases e:g f.key with
 | none=>
  have:=t7 (c:=c) e F ⟨f,hf,rfl⟩;rw[e] at h;simp only[Option.isSome_none,Bool.false_eq_true,if_false] at h;¡
 | some v=>
  have:=j9 (g:=g) (g':=gb g f.key c) F λf' _ e=>by
   ¦q:f'.key=f.key
   ·rw[q,cf];rfl
   ·rw[dw q];§e
  rw[e] at h;simp only[Option.isSome_some,if_true] at h;¡
def StL (g:Ky→Option Int) (f:Lf):Prop:=∀c,cost g f.r.price f.hs=some c→∃v,g (f.place,f.r.kind)=some v∧v≤c
theorem Ec {fs:List Lf} {g:Ky→Option Int} (h:∀(j:Nat) (f:Lf),fs[j]?=some f→StL g f):jh (fs.map ie) g:=λf' hf' c hc=>by
 £⟨f,hf,rfl⟩:=List.mem_map.mp hf';£⟨j,hj⟩:=List.mem_iff_getElem?.mp hf;§h j f hj c hc
theorem Cg {K:PySem.W.Frag} {n:Nat} {a:Addr} {x0 x1 x2:V} {i0 i1 i2:Nat} {σ:L2.St} {H:Hp} {Q:L2.St→Hp→Prop} (h:H a=some (.tup [x0,x1,x2])) (hn:3=n) (q:Q (((σ.set i0 (some x0)).set i1 (some x1)).set i2 (some x2)) H):Ew K n (fq (cj i0) (fq (cj i1) (fq (cj i2) gNil))) (.ref a) σ H Q:=⟨a,_,rfl,SqT.of h,hn,_,_,rfl,_,_,rfl,_,_,rfl,rfl,q⟩
theorem Oq {b wt:Addr} {kinds:List Str} {rs:List Rl} {ws:List V} {H:Hp} {Q:VK} {E:XK} (p0:cy H b kinds rs) (p1:H wt=some (.tup ws)) (p2:Bk kinds rs) (p3:Tw ws) (p4:∀(l:Addr) (as:List Addr) (H':Hp),ak H H'→H l=none→H' l=some (.lst (as.map V.ref))→cq H' (λx=>H x≠none) as (i5 kinds rs ws)→Q (.ref l) H'):ud [.ref b,.ref wt] H Q E:=⟨b,wt,kinds,rs,ws,rfl,p0,p1,p2,p3,p4⟩
theorem Gm {ra hl d:Addr} {r:Rl} {hs:List Ky} {g:Ky→Option Int} {n:Nat} {H:Hp} {Q:VK} {E:XK} (p0:fj H ra r) (p1:mr H hl hs) (p2:dc H d g n) (p3:Q (.int ((cost g r.price hs).getD 0)) H):n8 [.ref ra,.ref hl,.ref d] H Q E:=⟨ra,hl,d,r,hs,g,n,rfl,p0,p1,p2,p3⟩
theorem Kz {fl:Addr} {as:List Addr} {fs:List Lf} {H:Hp} {Q:VK} {E:XK} (p0:H fl=some (.lst (as.map V.ref))) (p1:cq H (λ_=>False) as fs) (p2:fs.length≤1000000) (p3:(∀f∈fs,1≤f.r.price)) (p4:∀(d:Addr) (H':Hp) (g:Ky→Option Int) (ks:List Ky),ak H H'→H d=none→TbK H' d g ks→Tbl (fs.map ie) g→ks.length≤fs.length→Q (.ref d) H'):ox [.ref fl] H Q E:=⟨fl,as,fs,rfl,p0,p1,p2,p3,p4⟩
theorem K3 {fl d:Addr} {as:List Addr} {fs:List Lf} {g:Ky→Option Int} {ks:List Ky} {H:Hp} {Q:VK} {E:XK} (p0:H fl=some (.lst (as.map V.ref))) (p1:cq H (λ_=>False) as fs) (p2:fs.length≤1000000) (p3:TbK H d g ks) (p4:ks.length≤1000000) (p5:Tbl (fs.map ie) g) (p6:∀(fd:Addr) (ls:List Addr) (H':Hp),ak H H'→H fd=none→RcAt H' fd ks ls (dz fs g)→Q (.ref fd) H'):pq [.ref fl,.ref d] H Q E:=⟨fl,d,as,fs,g,ks,rfl,p0,p1,p2,p3,p4,p5,p6⟩
end Pc
namespace Pc
open PySem PySem.Spec L2 PyProof.Rows Fm
theorem Be {fs:List Lf} {i:Nat} {f:Lf} (h:fs[i]?=some f) (g:Ky→Option Int) (k:Ky):dz (fs.take (i+1)) g k=dz (fs.take i) g k++if (f.place,f.r.kind)=k∧cost g f.r.price f.hs=g k then [f.r.name] else []:=by
 unfold dz;rw[List.take_add_one,h,List.filter_append,List.map_append];congr 1
 show (List.filter _ [f]).map _=_
 rw[List.filter_cons];¦c:(f.place,f.r.kind)=k∧cost g f.r.price f.hs=g k
 ·rw[if_pos c,if_pos (decide_eq_true c)];rfl
 ·rw[if_neg c,if_neg (by simpa using c)];rfl
theorem wm:∀{ks:List Ky} {ls:List Addr},ls.length=ks.length→((ks.zip ls).map λp=>(kyK p.1,V.ref p.2)).map (·.1)=ks.map kyK
 | [],_,_=>rfl
 | k::ks,[],h=>by cases h
 | k::ks,l::ls,h=>by
  show kyK k::(((ks.zip ls).map λp=>(kyK p.1,V.ref p.2)).map (·.1))=kyK k::ks.map kyK
  rw[wm (by simpa using h)]
theorem RcAt.same {H H':Hp} {fd:Addr} {ks:List Ky} {ls:List Addr} {nm:Ky→List Str} (h:RcAt H fd ks ls nm) (s:ak H H'):RcAt H' fd ks ls nm:=⟨s _ _ h.1,h.2.1,λj k l h1 h2=>s _ _ (h.2.2 j k l h1 h2)⟩
theorem RcAt.congr {H:Hp} {fd:Addr} {ks:List Ky} {ls:List Addr} {nm nm':Ky→List Str} (h:RcAt H fd ks ls nm) (e:∀k∈ks,nm' k=nm k):RcAt H fd ks ls nm':=⟨h.1,h.2.1,λj k l h1 h2=>by rw[e k (List.mem_of_getElem? h1)];§h.2.2 j k l h1 h2⟩
theorem RcAt.get {H:Hp} {fd b:Addr} {ks:List Ky} {ls:List Addr} {nm:Ky→List Str} (h:RcAt H fd ks ls nm) (nd:ks.Nodup) {k:Ky} (hb:H b=some (kyT k)) (hk:k∈ks):∃(j:Nat) (l:Addr),ks[j]?=some k∧ls[j]?=some l∧jz H fd (.ref b) (some (.ref l))∧H l=some (.lst ((nm k).map V.str)):=by
 £⟨h1,h2,h3⟩:=h;£⟨j,hj⟩:=List.mem_iff_getElem?.mp hk;¤hjl:j < ls.length:=by rw[h2];§(List.getElem?_eq_some_iff.mp hj).1
 ¤hl:ls[j]?=some ls[j]:=List.getElem?_eq_getElem hjl;¶⟨j,ls[j],hj,hl,?_,h3 j k _ hj hl⟩;¤e:dh ((ks.zip ls).map λp=>(kyK p.1,V.ref p.2)) (kyK k)=some (V.ref ls[j]):=by
  ¶Fq (by rw[wm h2];§ly (λa b e=>oy e) nd) ?_;§List.mem_map.mpr ⟨(k,ls[j]),List.mem_of_getElem? (List.getElem?_zip_eq_some.mpr ⟨hj,hl⟩),rfl⟩
 rw[←e];§jz.t h1 hb
theorem RcAt.put {H:Hp} {fd:Addr} {ks:List Ky} {ls:List Addr} {nm nm':Ky→List Str} (h:RcAt H fd ks ls nm) (nd:ks.Nodup) (nl:ls.Nodup) {j:Nat} {k:Ky} {l:Addr} {x:Str} (hj:ks[j]?=some k) (hl:ls[j]?=some l) (e:nm' k=nm k++[x]) (ne:∀k'∈ks,k'≠k→nm' k'=nm k'):RcAt (upd H l (.lst ((nm k).map V.str++[V.str x]))) fd ks ls nm':=by
 £⟨h1,h2,h3⟩:=h;¤hll:=h3 j k l hj hl;¶⟨by rw[af (df h1 hll (by ¿z;cases z))];§h1,h2,λi k' l' hi hi'=>?_⟩;¦c:i=j
 ·subst c;£rfl:k=k':=Option.some.inj (hj.symm.trans hi);£rfl:l=l':=Option.some.inj (hl.symm.trans hi');rw[ae,e,List.map_append];rfl
 ·¤n1:l'≠l:=λz=>c ((List.getElem?_inj (List.getElem?_eq_some_iff.mp hi').1 nl).mp (by rw[hi',hl,z]));¤n2:k'≠k:=λz=>c ((List.getElem?_inj (List.getElem?_eq_some_iff.mp hi).1 nd).mp (by rw[hi,hj,z]));rw[af n1,ne k' (List.mem_of_getElem? hi) n2];§h3 i k' l' hi hi'
def Cj (H0 H:Hp) (D:Addr) (ks:List Ky) (i:Nat) (cs ls:List Addr):Prop:=cs.length=i∧ls.length=i∧ls.Nodup∧∀(j:Nat) (k:Ky),j < i→ks[j]?=some k→∃c l t,cs[j]?=some c∧ls[j]?=some l∧c≠D∧t≠D∧l≠D∧H0 l=none∧H c=some (.tup [.ref t,.ref l])∧H t=some (kyT k)∧H l=some (.lst [])
theorem Cj.mono {H0 H H':Hp} {D:Addr} {ks:List Ky} {i:Nat} {cs ls:List Addr} (h:Cj H0 H D ks i cs ls) (s:∀b u,b≠D→H b=some u→H' b=some u):Cj H0 H' D ks i cs ls:=⟨h.1,h.2.1,h.2.2.1,λj k hj hk=>by
 £⟨c,l,t,h1,h2,h3,h4,h5,h6,h7,h8,h9⟩:=h.2.2.2 j k hj hk;§⟨c,l,t,h1,h2,h3,h4,h5,h6,s _ _ h3 h7,s _ _ h4 h8,s _ _ h5 h9⟩⟩
theorem Cj.snoc {H0 H:Hp} {D:Addr} {ks:List Ky} {i:Nat} {cs ls:List Addr} (hi:i < ks.length) (h:Cj H0 H D ks i cs ls) {H2:Hp} {c l t:Addr} {k:Ky} (hk:ks[i]?=some k) (s:ak H H2) (hl:H l=none) (h0:H0 l=none) (nc:c≠D) (nt:t≠D) (nl:l≠D) (ec:H2 c=some (.tup [.ref t,.ref l])) (et:H2 t=some (kyT k)) (el:H2 l=some (.lst [])):Cj H0 H2 D ks (i+1) (cs++[c]) (ls++[l]):=by
 ¤hc:=h.1;¤hll:=h.2.1;¤h':=h.mono (H':=H2) λb u _ e=>s _ _ e;¶⟨by rw[List.length_append,hc];rfl,by rw[List.length_append,hll];rfl,List.nodup_append.mpr ⟨h.2.2.1,by simp,λa ha b hb e=>?_⟩,λj k' hj hk'=>?_⟩
 ·rw[List.mem_singleton.mp hb] at e;subst e;£⟨j,hj⟩:=List.mem_iff_getElem?.mp ha;¤hjl:=(List.getElem?_eq_some_iff.mp hj).1;£⟨_,l',_,_,h2,_,_,_,_,_,_,h9⟩:=h.2.2.2 j _ ¥ (List.getElem?_eq_getElem (show j < ks.length by ¡));£rfl:l'=a:=Option.some.inj (h2.symm.trans hj);rw[hl] at h9;cases h9
 ·¦c':j < i
  ·£⟨c1,l1,t1,h1,h2,r⟩:=h'.2.2.2 j k' c' hk';§⟨c1,l1,t1,by rw[List.getElem?_append_left ¥];§h1,by rw[List.getElem?_append_left ¥];§h2,r⟩
  ·£rfl:j=i:=by ¡
   £rfl:k=k':=Option.some.inj (hk.symm.trans hk');§⟨c,l,t,by rw[List.getElem?_append_right ¥,hc,Nat.sub_self];rfl,by rw[List.getElem?_append_right ¥,hll,Nat.sub_self];rfl,nc,nt,nl,h0,ec,et,el⟩
theorem Dr {H H1:Hp} {d:Addr} {o:Obj} {kvs:List (List Key×V)} (hd:H d=some (.dT kvs)) (s:ak (upd H d (.frz o (.dT kvs))) H1):ak H (upd H1 d (.dT kvs)):=λb u e=>by
 ¦c:b=d
 ·subst c;rw[ae,←hd];§e
 ·rw[af c];§s b u (by rw[af c];§e)
end Pc
namespace Pc
open PySem PySem.Spec L2 PyProof.Rows Fm
theorem Cb {kinds:List Str} {rs:List Rl} {ws:List V} {g:Ky→Option Int} (T:Tbl (m8 kinds rs ws) g) {r:Rw} (h:r∈rowsOf kinds rs ws g):∃nm,r.names.head?=some nm∧(dz (i5 kinds rs ws) g (ee r)).head?=some nm:=by
 £⟨nm,hn⟩:=Dn T h;£⟨m1,m2,m3⟩:=vb h;¶⟨nm,hn,?_⟩;unfold ee;rw[Ay m2 m1,←m3];§hn
theorem Ht {ks:List (Int×Str)} {d:Int×Str} {i j:Nat} (h:ks.getD i d=ks.getD j d):rank ks.length (λi j=>ltK (ks.getD i d) (ks.getD j d)) i=rank ks.length (λi j=>ltK (ks.getD i d) (ks.getD j d)) j:=by
 unfold rank;dsimp only;rw[h]
theorem TbK.keys {H:Hp} {d:Addr} {g:Ky→Option Int} {ks:List Ky} {kvs:List (List Key×V)} (h2:kvs.map (·.1)=ks.map kyK) {ts:List Addr} (hts:∀(i:Nat) (k:List Key) (v:V),kvs[i]?=some (k,v)→∃t,ts[i]?=some t∧H t=some (.tup (k.map kV))) {i:Nat} (hi:i < ks.length):H (ts.getD i 0)=some (kyT (ks.getD i (0,""))):=by
 ¤hl:kvs.length=ks.length:=by
  have:=congrArg List.length h2;rw[List.length_map,List.length_map] at this;§this
 ¤hk:kvs[i]?=some (kvs[i]'¥):=List.getElem?_eq_getElem ¥;£⟨t,e1,e2⟩:=hts i _ _ (show kvs[i]?=some ((kvs[i]'¥).1,(kvs[i]'¥).2) from hk);¤e:=congrArg (λl=>l[i]?) h2;simp only[List.getElem?_map,hk,Option.map_some,List.getElem?_eq_getElem hi] at e;rw[Option.some.inj e] at e2;rw[List.getD_eq_getElem?_getD,e1,List.getD_eq_getElem?_getD,List.getElem?_eq_getElem hi];§e2
end Pc
namespace Pc
open PySem PySem.Spec L2 PyProof.Rows Fm
theorem Ij {zs:List Str} {i j:Nat} (hi:i < (zs.map V.str).length) (hj:j < (zs.map V.str).length) (e:(zs.map V.str).getD i .non=(zs.map V.str).getD j .non):rank zs.length (λi j=>ltS (zs.getD i "") (zs.getD j "")) i=rank zs.length (λi j=>ltS (zs.getD i "") (zs.getD j "")) j:=by
 rw[List.length_map] at hi hj;rw[getD_map V.str zs i "" .non hi,getD_map V.str zs j "" .non hj] at e;unfold rank;dsimp only;rw[V.str.inj e]
end Pc
namespace L2
open PySem PySem.Spec PyProof.Rows
section
variable {X:Cx}
def rEqNil (K:PySem.W.Frag) (neg:Bool):R2:=λx y H Q=>∃a b xs,x=.ref a∧y=.ref b∧SqL K H a xs∧SqL K H b []∧Q (.bl (if neg then !xs.isEmpty else xs.isEmpty)) H
theorem Nb (hu:X.A.units < cLine):OpR X (compareOp .Eq) (rEqNil X.K false):=by
 ¿pins s σ H x y v u Q I rx ry h;£⟨a,b,xs,rfl,rfl,ha,hb,q⟩:=h;cases rx
 cases ry
 £⟨its,r1,p1,_⟩:=I.list ha;£⟨its2,r2,p2,_⟩:=I.list hb;¤l1:=r1.length;¤l2:0=its2.length:=r2.length;¦hl:xs.length=0
 ·¤e1:its.toArray.size=0:=by rw[List.size_toArray,←l1,hl]
  ¶SeqAt.eq_listAt (e:=λ_=>true) p1.isList p2.isList (by rw[List.size_toArray,List.size_toArray,←l1,←l2,hl]) hu (λj h1 h2=>absurd h1 (by rw[e1];§Nat.not_lt_zero _)) ?_;¶bh I q ?_;rw[e1,List.length_eq_zero_iff.mp hl];rfl
 ·¶SeqAt.eq_list_lengthsAt p1.isList p2.isList (by rw[List.size_toArray,List.size_toArray,←l1,←l2];simpa using hl) hu ?_;¶bh I q ?_;cases xs with
  | nil=>§absurd rfl hl
  | cons _ _=>rfl
end
end L2
namespace L2
open PySem PySem.Spec PyProof.Rows
def iz (H:Hp) (as:List Addr) (xs:List (List Key)):Prop:=as.length=xs.length∧∀(j:Nat) (x:List Key),xs[j]?=some x→∃a,as[j]?=some a∧H a=some (.tup (x.map kV))
theorem Ol {a b:Key} (h:kV a=kV b):a=b:=by
 cases a <;> cases b <;> simp[kV] at h <;> rw[h]
theorem Cn:∀{a b:List Key},a.map kV=b.map kV→a=b
 | [],[],_=>rfl
 | [],_::_,h=>by cases h
 | _::_,[],h=>by cases h
 | x::a,y::b,h=>by
  ¤h:kV x::a.map kV=kV y::b.map kV:=h;£⟨h1,h2⟩:=List.cons.inj h;rw[Ol h1,Cn h2]
theorem yr {α:Type} [DecidableEq α] {as bs:List α} (hl:as.length=bs.length):((List.range as.length).all λj=>decide (as[j]?=bs[j]?))=decide (as=bs):=by
 rw[Bool.eq_iff_iff,List.all_eq_true,decide_eq_true_eq];constructor
 ·¿h;apply List.ext_getElem?
  ¿j;¦hj:j < as.length
  ·§of_decide_eq_true (h j (List.mem_range.mpr hj))
  ·rw[List.getElem?_eq_none_iff.mpr ¥,List.getElem?_eq_none_iff.mpr ¥]
 ·¿h j _;rw[h];§decide_eq_true rfl
section
variable {P:Program} {w:World} {A:Around} {s:Shared} {H:Hp}
theorem K1 {m m':Addr} {n n':List Key} (ok:HOk P w H s.heap) (h1:H m=some (.tup (n.map kV))) (h2:H m'=some (.tup (n'.map kV))) (hu:A.units < cLine):SeqAt.EqAt A s (.ref m) (.ref m') (decide (n=n')):=by
 ¦e:m=m'
 ·subst e;rw[h1] at h2;rw[decide_eq_true (Cn (HO.tup.inj (Option.some.inj h2)))];§SeqAt.EqAt.same _
 £⟨_,i1,r1,p1⟩:=(vz ok h1);£⟨_,i2,r2,p2⟩:=(vz ok h2);¤l1:=r1.length;¤l2:=r2.length;rw[List.length_map] at l1 l2;¶SeqAt.EqAt.of_refs e λP' w' E Q q=>SeqAt.RcAt.tuples (e:=λj=>decide (n[j]?=n'[j]?)) (show s.heap.IsTuple m i1.toArray from p1) (show s.heap.IsTuple m' i2.toArray from p2) hu (λj h1 h2=>qi (A:=A.in1) (s:=s) r1 r2 j h1 h2) P' w' E Q ?_;rw[List.size_toArray,List.size_toArray,←l1,←l2];¦hl:n.length=n'.length
 ·rw[←hl,Nat.min_self,yr hl];simpa using q
 ·have:¬n=n':=λe=>hl (by rw[e]);rw[decide_eq_false this] at q;rw[beq_eq_false_iff_ne.mpr hl,Bool.and_false];§q
end
section
variable {X:Cx}
def rNeLT:R2:=λx y H Q=>∃a b as bs xs ys,x=.ref a∧y=.ref b∧H a=some (.lst (as.map V.ref))∧H b=some (.lst (bs.map V.ref))∧iz H as xs∧iz H bs ys∧Q (.bl (!decide (xs=ys))) H
theorem E1 (hu:X.A.units+8 < cLine):OpR X (compareOp .NotEq) rNeLT:=by
 ¿pins s σ H x y v u Q I rx ry h;£⟨a,b,as,bs,xs,ys,rfl,rfl,ha,hb,tx,ty,q⟩:=h;cases rx
 cases ry
 £⟨its,r1,p1,_⟩:=I.list (SqL.of ha);£⟨its2,r2,p2,_⟩:=I.list (SqL.of hb);¤l1:=r1.length;¤l2:=r2.length;rw[List.length_map,tx.1] at l1;rw[List.length_map,ty.1] at l2;¦hl:xs.length=ys.length
 ·¶SeqAt.RcNeAt.lists (e:=λj=>decide (xs[j]?=ys[j]?)) p1.isList p2.isList (by rw[List.size_toArray,List.size_toArray,←l1,←l2,hl]) ¥ (λj h1 h2=>?_) _ _ _ _ ?_
  ·¤hj:j < xs.length:=by rw[List.size_toArray] at h1;¡
   ¤hj2:j < ys.length:=by rw[List.size_toArray] at h2;¡
   £⟨t,q1,q2⟩:=tx.2 j xs[j] (List.getElem?_eq_getElem hj);£⟨t',q1',q2'⟩:=ty.2 j ys[j] (List.getElem?_eq_getElem hj2);£⟨u,hu1,ru⟩:=r1.get (i:=j) (x:=V.ref t) (by rw[List.getElem?_map,q1];rfl);£⟨u',hu2,ru'⟩:=r2.get (i:=j) (x:=V.ref t') (by rw[List.getElem?_map,q1'];rfl);cases (show u=Value.ref t from ru)
   cases (show u'=Value.ref t' from ru')
   ¤g1:its.toArray[j]=Value.ref t:=by
    have:its[j]'(by simpa using h1)=Value.ref t:=by rw[List.getElem?_eq_getElem (by simpa using h1)] at hu1;§Option.some.inj hu1
    simpa using this
   ¤g2:its2.toArray[j]=Value.ref t':=by
    have:its2[j]'(by simpa using h2)=Value.ref t':=by rw[List.getElem?_eq_getElem (by simpa using h2)] at hu2;§Option.some.inj hu2
    simpa using this
   rw[g1,g2,List.getElem?_eq_getElem hj,List.getElem?_eq_getElem hj2];¤d:decide (some xs[j]=some ys[j])=decide (xs[j]=ys[j]):=decide_eq_decide.mpr ⟨λz=>Option.some.inj z,λz=>by rw[z]⟩;rw[d];§K1 (A:=X.A.in1) I.hok q2 q2' (by show X.A.units+1 < cLine;¡)
  ·¶bh I q ?_;rw[List.size_toArray,←l1,yr hl]
 ·¶SeqAt.RcNeAt.lists_lengths p1.isList p2.isList (by rw[List.size_toArray,List.size_toArray,←l1,←l2];simpa using hl) ¥ _ _ _ _ ?_;¶bh I q ?_;rw[decide_eq_false λe=>hl (by rw[e])];rfl
end
abbrev Rq:=(Int×Str)×(Int×Str)
noncomputable def ltQ (a b:Rq):Bool:=if a.1=b.1 then ltK a.2 b.2 else ltK a.1 b.1
theorem Nw (a:Rq):ltQ a a=false:=by
 unfold ltQ;rw[if_pos rfl,t4]
theorem Oi (a b:Rq):ltQ a b=true∨a=b∨ltQ b a=true:=by
 £⟨a1,a2⟩:=a;£⟨b1,b2⟩:=b;unfold ltQ;dsimp only;¦e:a1=b1
 ·subst e;rw[if_pos rfl,if_pos rfl];rcases sv a2 b2 with h | h | h
  ·§.inl h
  ·§.inr (.inl (by rw[h]))
  ·§.inr (.inr h)
 ·rw[if_neg e,if_neg λz=>e z.symm];rcases sv a1 b1 with h | h | h
  ·§.inl h
  ·§absurd h e
  ·§.inr (.inr h)
theorem Mr {a b:Int×Str} (h:ltK a b=true) (h':ltK b a=true):False:=by
 have:=qf h h';rw[t4] at this;cases this
theorem Jr {a b c:Rq} (h1:ltQ a b=true) (h2:ltQ b c=true):ltQ a c=true:=by
 £⟨a1,a2⟩:=a;£⟨b1,b2⟩:=b;£⟨c1,c2⟩:=c;unfold ltQ at h1 h2 ⊢;dsimp only at h1 h2 ⊢;¦e1:a1=b1
 ·subst e1;rw[if_pos rfl] at h1;¦e2:a1=c1
  ·rw[if_pos e2] at h2 ⊢;§qf h1 h2
  ·rw[if_neg e2] at h2 ⊢;§h2
 ·rw[if_neg e1] at h1;¦e2:b1=c1
  ·subst e2;rw[if_neg e1];§h1
  ·rw[if_neg e2] at h2;rw[if_neg λz=>?_]
   ·§qf h1 h2
   ·subst z;§Mr h1 h2
theorem Nj {a c:Rq} (b:Rq) (h:ltQ a c=true):ltQ a b=true∨ltQ b c=true:=by
 rcases Oi a b with e | e | e
 ·§.inl e
 ·subst e;§.inr h
 ·§.inr (Jr e h)
theorem Nu (ks:List Rq) (d:Rq):Ord ks.length λi j=>ltQ (ks.getD i d) (ks.getD j d):=⟨λ_ _=>Nw _,λ_ _ _ _ _ _ a b=>Jr a b,λ_ j _ _ _ _ a=>Nj _ a⟩
noncomputable def rqV (k:Rq):List V:=[.int k.1.1,.str k.1.2,.int k.2.1,.str k.2.2]
section
open Srt
variable {P:Program} {w:World} {A:Around} {H:Hp}
theorem O7 {ts:List Addr} {ks:List Rq} {d:Rq} (hl:ts.length=ks.length) (hR:∀i,i < ks.length→H (ts.getD i 0)=some (.tup (rqV (ks.getD i d)))):En P w A H (ts.map V.ref) (rank ks.length λi j=>ltQ (ks.getD i d) (ks.getD j d)):=by
 ¿s vs hok r h2;¤hlen:=r.length;rw[List.length_map] at hlen;¤o:=Nu ks d;¤row:∀i,i < ks.length→∃(t:Addr) (tk tk' tk2 tk3:Nat),vs.getD i Value.none=.ref t∧s.heap.IsTuple t [Value.int (ks.getD i d).1.1 tk,Value.str (ks.getD i d).1.2 tk',Value.int (ks.getD i d).2.1 tk2,Value.str (ks.getD i d).2.2 tk3].toArray:=λi hi=>by
  ¤hi2:i < ts.length:=by ¡
  £⟨u,hu,ru⟩:=r.get (i:=i) (x:=V.ref (ts.getD i 0)) (by rw[List.getElem?_map,List.getD_eq_getElem?_getD,List.getElem?_eq_getElem hi2];rfl);cases (show u=Value.ref (ts.getD i 0) from ru)
  £⟨_,its,ri,pi⟩:=vz hok (hR i hi);cases ri with
  | cons r1 rr=>
   cases rr with
   | cons r2 rr=>
    cases rr with
    | cons r3 rr=>
     cases rr with
     | cons r4 rr=>
      cases rr
      £⟨tk,rfl⟩:=r1;£⟨tk',rfl⟩:=r2;£⟨tk2,rfl⟩:=r3;£⟨tk3,rfl⟩:=r4;§⟨_,tk,tk',tk2,tk3,by rw[List.getD_eq_getElem?_getD,hu];rfl,pi⟩
 £⟨firsts,kt,kl,kT⟩:=km (M:=model P w) (h:=s.heap) (T:=.type "int") vs λv hv=>by
  £⟨i,hi,e⟩:=List.mem_iff_getElem.mp hv;£⟨t,tk,tk',tk2,tk3,et,⟨ob,ho,hc,n,hd⟩⟩:=row i ¥;rw[List.getD_eq_getElem?_getD,List.getElem?_eq_getElem hi] at et;¶⟨t,ob,_,n,.int (ks.getD i d).1.1 tk,by rw[←e];§et,ho,hc,hd,rfl,?_⟩;§.now
 ¶PySem.W.kat_kind kt ¥ kT (by rfl) ⟨rfl,λi j C hi hj hC=>?_⟩;rw[o.rank ¥ ¥] at hC;£⟨t,tk,tk',tk2,tk3,et,pt⟩:=row i ¥;£⟨u,uk,uk',uk2,uk3,eu,pu⟩:=row j ¥;£⟨ob,ho,hc,n,hd⟩:=id pt;£⟨ob',ho',hc',n',hd'⟩:=id pu;generalize ks.getD i d=a at*;generalize ks.getD j d=b at*;show wpAny (model P w) A (keyLt' (tuples' true) _ _) C _ s
 rw[et,eu];¶PySem.W.kat_lt (b:=true) ho hd ho' hd' ?_;£⟨⟨a1,a2⟩,a3,a4⟩:=a;£⟨⟨b1,b2⟩,b3,b4⟩:=b;show PySem.W.KatLex P w A true (decide (4 < 4)) C [(.int a1 tk,.int b1 uk),(.str a2 tk',.str b2 uk'),(.int a3 tk2,.int b3 uk2),(.str a4 tk3,.str b4 uk3)] 0 s
 unfold ltQ ltK at hC;dsimp only at hC;¶PySem.W.kat_cons (SeqAt.EqAt.int_int _ _ _ _ _ _ _ _ ?_);¦e:a1=b1
 ·subst e;rw[beq_self_eq_true];rw[if_pos (rfl:a1=a1)] at hC;¶PySem.W.kat_yes (PySem.W.kat_cons (SeqAt.EqAt.str_str _ _ _ _ _ _ _ _ ?_));¦e2:a2=b2
  ·subst e2;rw[beq_self_eq_true];rw[if_pos (rfl:(a1,a2)=(a1,a2))] at hC;¶PySem.W.kat_yes (PySem.W.kat_cons (SeqAt.EqAt.int_int _ _ _ _ _ _ _ _ ?_));¦e3:a3=b3
   ·subst e3;rw[beq_self_eq_true];rw[if_pos (rfl:a3=a3)] at hC;¶PySem.W.kat_yes (PySem.W.kat_cons (SeqAt.EqAt.str_str _ _ _ _ _ _ _ _ ?_));¦e4:a4=b4
    ·subst e4;rw[beq_self_eq_true];rw[lg] at hC;§PySem.W.kat_yes (PySem.W.kat_nil hC)
    ·rw[show (a4==b4)=false from beq_eq_false_iff_ne.mpr e4];§PySem.W.kat_no (PySem.W.kat_one _ _ (SeqAt.LtAt.str _ _ _ _ hC))
   ·rw[show (a3==b3)=false from beq_eq_false_iff_ne.mpr e3];rw[if_neg e3] at hC;§PySem.W.kat_no (PySem.W.kat_one _ _ (lt_int hC))
  ·rw[show (a2==b2)=false from beq_eq_false_iff_ne.mpr e2];rw[if_neg λz=>e2 (Prod.mk.inj z).2] at hC;§PySem.W.kat_no (PySem.W.kat_one _ _ (SeqAt.LtAt.str _ _ _ _ hC))
 ·rw[show (a1==b1)=false from beq_eq_false_iff_ne.mpr e];rw[if_neg λz=>e (Prod.mk.inj z).1,if_neg e] at hC;§PySem.W.kat_no (oneLt_int hC)
end
theorem Dk {ks:List Rq} {d:Rq} {i j:Nat} (h:ks.getD i d=ks.getD j d):rank ks.length (λi j=>ltQ (ks.getD i d) (ks.getD j d)) i=rank ks.length (λi j=>ltQ (ks.getD i d) (ks.getD j d)) j:=by
 unfold rank;dsimp only;rw[h]
end L2
namespace L2
open PySem PySem.Spec PyProof.Rows
theorem Ob {lo:Int} {n:Nat} {fr:St} {tc:TT} {te:TE} {D:Addr} {H1:Hp} {Q:Hp→Prop} (P:Nat→List V→Hp→Prop) (hn:n < sizeLine) (h0:P 0 [] (upd H1 D (.lst [])))
  (step:∀(i:Nat) ys H (G:Hp→Prop) (K':V→Hp→Prop),i < n→P i ys H→ys.length≤i→H D=some (.lst ys)→(∀H3,H3 D=some (.lst ys)→P (i+1) ys H3→G H3)→(∀y H4,H4 D=some (.lst ys)→P (i+1) (ys++[y]) (upd H4 D (.lst (ys++[y])))→K' y H4)→tc ([some (.int (lo+i))]++fr) H λb H3=>if b=true then te ([some (.int (lo+i))]++fr) H3 K' else G H3)
  (done:∀ys H,P n ys H→ys.length≤n→H D=some (.lst ys)→Q H):LC 1 fr (cj 0) tc te (Itr lo n) D H1 Q:=by
 ¶⟨λi m H=>m=n - i∧i≤n∧∃ys,H D=some (.lst ys)∧P i ys H∧ys.length≤i,⟨n,by simp,Nat.zero_le _,[],ae,h0,Nat.le_refl _⟩,?_⟩;rintro i m H ⟨rfl,hi,ys,hys,hP,hl⟩;¦hlt:i < n
 ·¶.inr ⟨hlt,λτ x H' hτ hy=>?_⟩;£⟨e1,e2⟩:=hy;subst e1 e2;£⟨c,rfl⟩:∃c,τ=[c]:=List.length_eq_one_iff.mp hτ;¶⟨⟨[some (.int (lo+i))],rfl,rfl⟩,step i ys H' _ _ hlt hP hl hys (λH3 q1 q2=>⟨n - (i+1),¥,rfl,hlt,ys,q1,q2,Nat.le_succ_of_le hl⟩) λy H4 q1 q2=>⟨ys,q1,¥,n - (i+1),¥,rfl,hlt,ys++[y],ae,q2,?_⟩⟩;rw[List.length_append,List.length_singleton];¡
 ·£rfl:i=n:=by ¡
  §.inl ⟨Nat.le_refl _,done ys H hP hl hys⟩
end L2
namespace Pc
open PySem PySem.Spec L2 PyProof.Rows Fm
def qo (H:Hp) (x:V):Prop:=∃(a:Addr) (t:Tr),x=.ref a∧H a=some (.tup [.int t.place,.str t.kind,.int t.price,.str t.name])
def cz (H:Hp) (xs:List V) (m:Nat):Prop:=xs.length≤m∧∀x∈xs,qo H x
def TabAt (H:Hp) (a:Addr) (m:Nat):Prop:=∃xs,H a=some (.lst xs)∧cz H xs m
theorem qo.tk {H H':Hp} {x:V} (h:qo H x) (s:TK H H'):qo H' x:=by
 £⟨a,t,e,h⟩:=h;§⟨a,t,e,s _ _ h⟩
theorem cz.tk {H H':Hp} {xs:List V} {m:Nat} (h:cz H xs m) (s:TK H H'):cz H' xs m:=⟨h.1,λx hx=>(h.2 x hx).tk s⟩
theorem cz.same {H H':Hp} {xs:List V} {m:Nat} (h:cz H xs m) (s:ak H H'):cz H' xs m:=h.tk (TK.of s)
theorem cz.mono {H:Hp} {xs:List V} {m m':Nat} (h:cz H xs m) (l:m≤m'):cz H xs m':=⟨Nat.le_trans h.1 l,h.2⟩
theorem cz.snoc {H:Hp} {xs:List V} {m:Nat} {x:V} (h:cz H xs m) (hx:qo H x):cz H (xs++[x]) (m+1):=⟨by rw[List.length_append];have:=h.1;simp;¡,λy hy=>by
 rcases List.mem_append.mp hy with hy | hy
 ·§h.2 y hy
 ·rw[List.mem_singleton.mp hy];§hx⟩
theorem cz.append {H:Hp} {xs ys:List V} {m k:Nat} (h:cz H xs m) (h':cz H ys k):cz H (xs++ys) (m+k):=⟨by rw[List.length_append];have:=h.1;have:=h'.1;¡,λy hy=>by
 rcases List.mem_append.mp hy with hy | hy
 ·§h.2 y hy
 ·§h'.2 y hy⟩
theorem cz.nil (H:Hp) (m:Nat):cz H [] m:=⟨Nat.zero_le _,λx h=>nomatch h⟩
theorem cz.one {H:Hp} {x:V} (hx:qo H x):cz H [x] 1:=⟨Nat.le_refl _,λy hy=>by rw[List.mem_singleton.mp hy];§hx⟩
theorem cz.cut {H:Hp} {xs:List V} {m:Nat} (h:cz H xs m) (lo hi:Option Int):cz H (cn xs lo hi) m:=⟨Nat.le_trans (dm xs lo hi) h.1,λx hx=>by
 unfold cn at hx;§h.2 x (List.mem_of_mem_drop (List.mem_of_mem_take hx))⟩
theorem cz.set {H:Hp} {xs:List V} {m:Nat} (h:cz H xs m) (j:Nat) {x:V} (hx:qo H x):cz H (xs.set j x) m:=⟨by rw[List.length_set];§h.1,λy hy=>by
 rcases List.mem_or_eq_of_mem_set hy with hy | rfl
 ·§h.2 y hy
 ·§hx⟩
theorem TabAt.tk {H H':Hp} {a:Addr} {m:Nat} (h:TabAt H a m) (s:TK H H') (e:∀xs,H a=some (.lst xs)→H' a=some (.lst xs)):TabAt H' a m:=by
 £⟨xs,h1,h2⟩:=h;§⟨xs,e _ h1,h2.tk s⟩
theorem TabAt.same {H H':Hp} {a:Addr} {m:Nat} (h:TabAt H a m) (s:ak H H'):TabAt H' a m:=h.tk (TK.of s) λxs e=>s _ _ e
theorem qo.deck {H:Hp} {x:V} (h:qo H x) {n:Int}:x≠.int n:=λe=>by
 £⟨a,t,rfl,_⟩:=h;cases e
theorem TabAt.ne {H:Hp} {a d b:Addr} {m n:Nat} {ns:List Int} (h:TabAt H a m) (D:cu H d b ns n):a≠d:=λe=>by
 £⟨xs,h1,h2⟩:=h;rw[e,D.1] at h1;¤h1:=HO.lst.inj (Option.some.inj h1);§(h2.2 (.int n) (by rw[←h1];simp)).deck rfl
theorem TK.b8 {H H':Hp} {d b:Addr} {ns:List Int} {n:Nat} (D:cu H d b ns n) (s:aq d H H'):TK H H':=λ_ _ h=>dv D s h
theorem TabAt.b8 {H H':Hp} {a d b:Addr} {m n:Nat} {ns:List Int} (h:TabAt H a m) (D:cu H d b ns n) (s:aq d H H'):TabAt H' a m:=h.tk (TK.b8 D s) λxs e=>s _ _ (h.ne D) e
theorem cz.tr {H:Hp}:∀{xs:List V} {m:Nat},cz H xs m→∃(ts:List Addr) (tab:List Tr),xs=ts.map V.ref∧xk H ts tab∧tab.length≤m
 | [],m,_=>⟨[],[],rfl,⟨rfl,λj t h=>by simp at h⟩,Nat.zero_le _⟩
 | x::xs,m,h=>by
  £⟨a,t,rfl,ha⟩:=h.2 x List.mem_cons_self;£⟨ts,tab,rfl,ht,hl⟩:=cz.tr (xs:=xs) (m:=m - 1) ⟨by have:=h.1;simp at this;¡,λy hy=>h.2 y (List.mem_cons_of_mem _ hy)⟩;have:=h.1;rw[List.length_cons] at this;¶⟨a::ts,t::tab,rfl,⟨by rw[List.length_cons,List.length_cons,ht.1],λj t' hj=>?_⟩,by rw[List.length_cons];¡⟩;cases j with
  | zero=>cases hj;§⟨a,rfl,ha⟩
  | succ j=>§ht.2 j t' hj
noncomputable def tr4K (t:Tr):List Key:=[Sum.inl t.place,Sum.inr t.kind,Sum.inl t.price,Sum.inr t.name]
noncomputable def Ep (t:Tr):List Key:=[Sum.inl t.place,Sum.inr t.kind]
theorem xk.rq {H:Hp} {ts:List Addr} {tab:List Tr} (h:xk H ts tab):iz H ts (tab.map tr4K):=⟨by rw[List.length_map,h.1],λj x hx=>by
 rw[List.getElem?_map] at hx;£⟨t,ht,rfl⟩:=Option.map_eq_some_iff.mp hx;§h.2 j t ht⟩
theorem RcAt.b8 {H H':Hp} {fd d b:Addr} {ns:List Int} {n:Nat} {ks:List Ky} {ls:List Addr} {nm:Ky→List Str} (h:RcAt H fd ks ls nm) (D:cu H d b ns n) (s:aq d H H'):RcAt H' fd ks ls nm:=⟨s _ _ (df h.1 D.1 (by ¿z;cases z)) h.1,h.2.1,λj k l h1 h2=>by
 ¤e:=h.2.2 j k l h1 h2;¶s _ _ (df e D.1 λz=>?_) e;¤z:=HO.lst.inj z;cases e2:nm k with
 | nil=>rw[e2] at z;cases z
 | cons y ys=>rw[e2] at z;cases z⟩
theorem TbK.b8 {H H':Hp} {ld d b:Addr} {ns:List Int} {n:Nat} {g:Ky→Option Int} {ks:List Ky} (h:TbK H ld g ks) (D:cu H d b ns n) (s:aq d H H'):TbK H' ld g ks:=h.at λo e=>s _ _ (by
 £⟨kvs,rfl⟩:=h.due o e;§df e D.1 (by ¿z;cases z)) e
theorem TbK.nd {H:Hp} {ld:Addr} {g:Ky→Option Int} {ks:List Ky} (h:TbK H ld g ks):ks.Nodup:=by
 £⟨_,_,_,nd,_⟩:=h;§nd
theorem Bo (js:List Int) (i:Int) (h0:0≤i) (h1:i < (js.length:Nat)):∃j,atI (js.map V.int) i=some (.int j):=by
 £⟨x,hx,hm⟩:=b7 (js.map V.int) i h0 (by rw[List.length_map];§h1);£⟨j,_,rfl⟩:=List.mem_map.mp hm;§⟨j,hx⟩
theorem vq (js:List Str) (i:Int) (h0:0≤i) (h1:i < (js.length:Nat)):∃j,atI (js.map V.str) i=some (.str j):=by
 £⟨x,hx,hm⟩:=b7 (js.map V.str) i h0 (by rw[List.length_map];§h1);£⟨j,_,rfl⟩:=List.mem_map.mp hm;§⟨j,hx⟩
theorem M1 {α:Type} {xs:List α} {i:Int} {v:α} (h:atI xs i=some v):∃j,ixN xs.length i=some j:=by
 unfold atI at h;cases e:ixN xs.length i with
 | none=>rw[e] at h;cases h
 | some j=>§⟨j,rfl⟩
theorem cut3t (a b c d:V):cn [a,b,c,d] (some 3) none=[d]:=As [a,b,c,d] 3 0 (by show (3:Nat)≤4;decide)
theorem Jy (H:Hp):iz H [] []:=⟨rfl,λj x h=>by simp at h⟩
theorem zk {H H':Hp} {as:List Addr} {xs:List (List Key)} (h:iz H as xs) (s:TK H H'):iz H' as xs:=⟨h.1,λj x e=>by
 £⟨a,h1,h2⟩:=h.2 j x e;§⟨a,h1,s _ _ h2⟩⟩
theorem Hi {H:Hp} {as:List Addr} {xs:List (List Key)} (h:iz H as xs) {a:Addr} {x:List Key} (ha:H a=some (.tup (x.map kV))):iz H (as++[a]) (xs++[x]):=by
 ¶⟨by rw[List.length_append,List.length_append,h.1];rfl,λi r' hi=>?_⟩;¦c':i < xs.length
 ·rw[List.getElem?_append_left c'] at hi;£⟨a',g1,g2⟩:=h.2 i r' hi;§⟨a',by rw[List.getElem?_append_left (by rw[h.1];§c')];§g1,g2⟩
 ·rw[List.getElem?_append_right ¥] at hi;¤hz:i - xs.length=0:=by
   rcases Nat.eq_zero_or_pos (i - xs.length) with g | g
   ·§g
   ·rw[List.getElem?_eq_none (by rw[List.length_singleton];¡)] at hi;cases hi
  rw[hz] at hi;cases hi
  §⟨a,by rw[List.getElem?_append_right (by rw[h.1];¡),h.1,hz];rfl,ha⟩
noncomputable def Ce (r:Rw):List Key:=kyK (ee r)
theorem Jf {tab:List Tr} {rows:List Rw} (e:tab.map Ep=rows.map Ce):tab.length=rows.length∧∀(j:Nat) (t:Tr) (r:Rw),tab[j]?=some t→rows[j]?=some r→t.place=(r.place:Int)∧t.kind=r.kind:=by
 ¶⟨by have:=congrArg List.length e;rw[List.length_map,List.length_map] at this;§this,λj t r h1 h2=>?_⟩;have:=congrArg (λl=>l[j]?) e;simp only[List.getElem?_map,h1,h2,Option.map_some] at this;have:=Option.some.inj this;unfold Ep Ce kyK ee at this;simpa using this
theorem yf.keys {tab:List Tr} {rows:List Rw} (h:yf tab rows):tab.map Ep=rows.map Ce:=by
 apply List.ext_getElem?
 ¿j;rw[List.getElem?_map,List.getElem?_map];¦hj:j < tab.length
 ·¤hj2:j < rows.length:=by rw[←h.1];§hj
  £⟨h1,h2,_⟩:=h.2 j _ _ (List.getElem?_eq_getElem hj) (List.getElem?_eq_getElem hj2);rw[List.getElem?_eq_getElem hj,List.getElem?_eq_getElem hj2,Option.map_some,Option.map_some];unfold Ep Ce kyK ee;rw[h1,h2]
 ·rw[List.getElem?_eq_none ¥,List.getElem?_eq_none (by have:=h.1;¡)];rfl
structure Lst (H:Hp) (kinds:List Str) (rs:List Rl) (ws:List V) (g:Ky→Option Int) (ks:List Ky) (lx:List Addr) (ld rd:Addr):Prop where
 bk:Bk kinds rs
 tw:Tw ws
 T:Tbl (m8 kinds rs ws) g
 l:TbK H ld g ks
 r:RcAt H rd ks lx (dz (i5 kinds rs ws) g)
 k:ks.length≤20000
theorem Lst.same {H H':Hp} {kinds:List Str} {rs:List Rl} {ws:List V} {g:Ky→Option Int} {ks:List Ky} {lx:List Addr} {ld rd:Addr} (h:Lst H kinds rs ws g ks lx ld rd) (s:ak H H'):Lst H' kinds rs ws g ks lx ld rd:=⟨h.bk,h.tw,h.T,h.l.same s,h.r.same s,h.k⟩
theorem Lst.b8 {H H':Hp} {kinds:List Str} {rs:List Rl} {ws:List V} {g:Ky→Option Int} {ks:List Ky} {lx:List Addr} {ld rd d b:Addr} {ns:List Int} {n:Nat} (h:Lst H kinds rs ws g ks lx ld rd) (D:cu H d b ns n) (s:aq d H H'):Lst H' kinds rs ws g ks lx ld rd:=⟨h.bk,h.tw,h.T,h.l.b8 D s,h.r.b8 D s,h.k⟩
theorem Hb {kinds:List Str} {rs:List Rl} {ws:List V} {g:Ky→Option Int} (bk:Bk kinds rs) (T:Tbl (m8 kinds rs ws) g) {k:Ky} {v:Int} (h:g k=some v):0 < (dz (i5 kinds rs ws) g k).length:=by
 £⟨r,hr,h1,h2,h3⟩:=Cc bk T h;£⟨nm,_,hn⟩:=Cb T hr;rw[show ee r=k by unfold ee;rw[h1,h2]] at hn;cases e:dz (i5 kinds rs ws) g k with
 | nil=>rw[e] at hn;cases hn
 | cons y ys=>§Nat.succ_pos _
section
variable {P:Program} {w:World} {A:Around}
theorem Bp {H:Hp} {ld:Addr} {g:Ky→Option Int} {ks:List Ky} {Q:List Addr→Addr→List Nat→Prop} (T8:TbK H ld g ks) (hk:ks.length≤20000)
  (q:∀(l:Addr) (is:List Nat) (ts:List Addr),is.Perm (List.range ks.length)→(∀i j,i≤j→j < ks.length→rank ks.length (λi j=>ltK ((ks.map kyI).getD i (0,"")) ((ks.map kyI).getD j (0,""))) (is.getD i 0)≤rank ks.length (λi j=>ltK ((ks.map kyI).getD i (0,"")) ((ks.map kyI).getD j (0,""))) (is.getD j 0))→(∀i,i < ks.length→H (ts.getD i 0)=some (kyT (ks.getD i (0,""))))→H l=none→Q ts l is):
  ∃kvs,H ld=some (.dT kvs)∧kvs.length≤100000∧∀ts:List Addr,ts.length=kvs.length→(∀(i:Nat) (k:List Key) (v:V),kvs[i]?=some (k,v)→∃t,ts[i]?=some t∧H t=some (.tup (k.map kV)))→∃rk,En P w A H (ts.map V.ref) rk∧(∀i j,i < ts.length→j < ts.length→ts.getD i 0=ts.getD j 0→rk i=rk j)∧
  ∀(l:Addr) (is:List Nat),is.Perm (List.range ts.length)→(∀i j,i≤j→j < ts.length→rk (is.getD i 0)≤rk (is.getD j 0))→H l=none→Q ts l is:=by
 £⟨kvs,k1,k2,nd,k4⟩:=id T8;¤kl:kvs.length=ks.length:=by
  have:=congrArg List.length k2;rw[List.length_map,List.length_map] at this;§this
 ¶⟨kvs,k1,¥,λts tl hts=>?_⟩;¤key:∀i,i < ks.length→H (ts.getD i 0)=some (kyT (ks.getD i (0,""))):=λi hi=>TbK.keys (d:=ld) (g:=g) k2 hts hi;¤gk:∀i,i < ks.length→(ks.map kyI).getD i (0,"")=kyI (ks.getD i (0,"")):=λi hi=>getD_map kyI ks i (0,"") (0,"") hi;¶⟨_,Nn (ks:=ks.map kyI) (d:=(0,"")) (by rw[List.length_map];¡) (λi hi=>?_),λi j hi hj e=>Ht ?_,λl is hp hs hl=>?_⟩
 ·rw[List.length_map] at hi;rw[gk i hi];§key i hi
 ·¤h1:=key i ¥;¤h2:=key j ¥;rw[e,h2] at h1;rw[gk i ¥,gk j ¥];¤h1:=Option.some.inj h1;unfold kyT at h1;simp only[HO.tup.injEq,List.cons.injEq,V.int.injEq,V.str.injEq,and_true] at h1;unfold kyI;rw[h1.1,h1.2]
 ¤hp':is.Perm (List.range ks.length):=by rw[←kl,←tl];§hp
 ¶q l is ts hp' (λi j hij hj=>?_) key hl;have:=hs i j hij ¥;rw[List.length_map] at this;§this
theorem Jo {K:PySem.W.Frag} {H:Hp} {p:Addr} {xs:List V} {m:Nat} {Q:List V→Addr→List Nat→Prop} (hp:H p=some (.lst xs)) (hx:cz H xs m) (hm:m≤100000)
  (q:∀(l:Addr) (is:List Nat),cz H (is.map λi=>xs.getD i .non) m→H l=none→Q xs l is):
  ∃ys,(SqL K H p ys∨SqT K H p ys)∧ys.length≤100000∧∃rk,En P w A H ys rk∧(∀i j,i < ys.length→j < ys.length→ys.getD i .non=ys.getD j .non→rk i=rk j)∧
  ∀(l:Addr) (is:List Nat),is.Perm (List.range ys.length)→(∀i j,i≤j→j < ys.length→rk (is.getD i 0)≤rk (is.getD j 0))→H l=none→Q ys l is:=by
 £⟨ts,tab,rfl,ht,htl⟩:=hx.tr;¤hl:=ht.1;¤tg:∀i,i < tab.length→H (ts.getD i 0)=some (.tup (rqV ((tab.map λt=>(((t.place,t.kind),(t.price,t.name)):Rq)).getD i ((0,""),(0,""))))):=λi hi=>by
  £⟨a,h1,h2⟩:=ht.2 i _ (List.getElem?_eq_getElem hi);rw[List.getD_eq_getElem?_getD,h1,List.getD_eq_getElem?_getD,List.getElem?_map,List.getElem?_eq_getElem hi];§h2
 ¶⟨ts.map V.ref,.inl (SqL.of hp),by rw[List.length_map];¡,_,O7 (ks:=tab.map λt=>(((t.place,t.kind),(t.price,t.name)):Rq)) (d:=((0,""),(0,""))) (by rw[List.length_map];§hl) (λi hi=>tg i (by rw[List.length_map] at hi;§hi)),λi j hi hj e=>Dk ?_,λl is hp hs hl2=>q l _ ⟨?_,λx hxm=>?_⟩ hl2⟩
 ·rw[List.length_map] at hi hj;rw[getD_map V.ref ts i 0 .non hi,getD_map V.ref ts j 0 .non hj] at e;¤e:=V.ref.inj e;¤h1:=tg i ¥;¤h2:=tg j ¥;rw[e,h2] at h1;¤h1:=HO.tup.inj (Option.some.inj h1);generalize (tab.map λt=>(((t.place,t.kind),(t.price,t.name)):Rq)).getD i ((0,""),(0,""))=a at*;generalize (tab.map λt=>(((t.place,t.kind),(t.price,t.name)):Rq)).getD j ((0,""),(0,""))=b at*;£⟨⟨a1,a2⟩,a3,a4⟩:=a;£⟨⟨b1,b2⟩,b3,b4⟩:=b;unfold rqV at h1;simp only[List.cons.injEq,V.int.injEq,V.str.injEq,and_true] at h1;£⟨rfl,rfl,rfl,rfl⟩:=h1;rfl
 ·rw[List.length_map,hp.length_eq,List.length_range,List.length_map];¡
 ·£⟨i,hi,rfl⟩:=List.mem_map.mp hxm;¤hil:=List.mem_range.mp (hp.mem_iff.mp hi);¶hx.2 _ ?_;rw[List.getD_eq_getElem?_getD,List.getElem?_eq_getElem hil];§List.getElem_mem hil
end
theorem TabAt.mono {H:Hp} {a:Addr} {m m':Nat} (h:TabAt H a m) (l:m≤m'):TabAt H a m':=by
 £⟨xs,h1,h2⟩:=h;§⟨xs,h1,h2.mono l⟩
theorem TabAt.upd {H:Hp} {a T:Addr} {m:Nat} {xs ys:List V} (h:TabAt H a m) (n:a≠T) (hT:H T=some (.lst xs)):TabAt (L2.upd H T (.lst ys)) a m:=h.tk (TK.put hT (by ¿_ z;cases z)) λzs e=>by rw[af n];§e
def j7 (H:Hp) (T:Addr) (as:List Addr):Prop:=H T=some (.lst (as.map V.ref))∧∀(j:Nat) (a:Addr),as[j]?=some a→a≠T∧TabAt H a (if j < 2 then 12000 else 30000)
theorem j7.same {H H':Hp} {T:Addr} {as:List Addr} (h:j7 H T as) (s:ak H H'):j7 H' T as:=⟨s _ _ h.1,λj a e=>⟨(h.2 j a e).1,(h.2 j a e).2.same s⟩⟩
theorem j7.b8 {H H':Hp} {T d b:Addr} {ns:List Int} {n:Nat} {as:List Addr} (h:j7 H T as) (D:cu H d b ns n) (nT:T≠d) (s:aq d H H'):j7 H' T as:=⟨s _ _ nT h.1,λj a e=>⟨(h.2 j a e).1,(h.2 j a e).2.b8 D s⟩⟩
theorem j7.snoc {H:Hp} {T a:Addr} {as:List Addr} (h:j7 H T as) (ha:TabAt H a (if as.length < 2 then 12000 else 30000)) (na:a≠T):j7 (upd H T (.lst (as.map V.ref++[.ref a]))) T (as++[a]):=by
 ¶⟨by rw[ae,List.map_append];rfl,λi r' hi=>?_⟩;¦c':i < as.length
 ·rw[List.getElem?_append_left c'] at hi;£⟨g1,g2⟩:=h.2 i r' hi;§⟨g1,g2.upd g1 h.1⟩
 ·rw[List.getElem?_append_right ¥] at hi;¤hz:i - as.length=0:=by
   rcases Nat.eq_zero_or_pos (i - as.length) with g | g
   ·§g
   ·rw[List.getElem?_eq_none (by rw[List.length_singleton];¡)] at hi;cases hi
  rw[hz] at hi;cases hi
  £rfl:i=as.length:=by ¡
  §⟨na,ha.upd na h.1⟩
def oj:Sp:=λvs H Q _=>∃(d b ld rd:Addr) (ns:List Int) (n:Nat) (kinds:List Str) (rs:List Rl) (ws:List V) (g:Ky→Option Int) (ks:List Ky) (lx:List Addr),vs=[.ref d,.ref ld,.ref rd]∧cu H d b ns n∧n≤50000∧Lst H kinds rs ws g ks lx ld rd∧∀(l:Addr) (n':Nat) (H':Hp),aq d H H'→H' d=some (.lst [.ref b,.int (n':Int)])→n'≤n+ks.length→H l=none→TabAt H' l ks.length→Q (.ref l) H'
def lz:Sp:=λvs H Q _=>∃(d b tl bt nl:Addr) (ns:List Int) (n m:Nat) (kinds:List Str) (rs:List Rl) (zs:List Str),vs=[.ref d,.ref tl,.ref bt,.ref nl]∧cu H d b ns n∧n≤50000∧TabAt H tl m∧m≤40000∧cy H bt kinds rs∧Bk kinds rs∧1≤rs.length∧cg H nl zs∧∀(l:Addr) (H':Hp),aq d H H'→H' d=some (.lst [.ref b,.int ((n+1:Nat):Int)])→H l=none→TabAt H' l (2*m+1)→Q (.ref l) H'
def zp:Sp:=λvs H Q _=>∃(tl ld rd:Addr) (ts:List Addr) (tab:List Tr) (kinds:List Str) (rs:List Rl) (ws:List V) (g:Ky→Option Int) (ks:List Ky) (lx:List Addr),vs=[.ref tl,.ref ld,.ref rd]∧H tl=some (.lst (ts.map V.ref))∧xk H ts tab∧tab.length≤100000∧Lst H kinds rs ws g ks lx ld rd∧∀(c:Bool) (H':Hp),ak H H'→(c=true↔yf tab (rowsOf kinds rs ws g))→Q (.bl c) H'
def oh:Sp:=λvs H Q _=>∃(tl:Addr) (m:Nat),vs=[.ref tl]∧TabAt H tl m∧m≤100000∧∀(l:Addr) (H':Hp),ak H H'→H l=none→TabAt H' l m→Q (.ref l) H'
theorem Kh {d b ld rd:Addr} {ns:List Int} {n:Nat} {kinds:List Str} {rs:List Rl} {ws:List V} {g:Ky→Option Int} {ks:List Ky} {lx:List Addr} {H:Hp} {Q:VK} {E:XK} (p0:cu H d b ns n) (p1:n≤50000) (p2:Lst H kinds rs ws g ks lx ld rd) (p3:∀(l:Addr) (n':Nat) (H':Hp),aq d H H'→H' d=some (.lst [.ref b,.int (n':Int)])→n'≤n+ks.length→H l=none→TabAt H' l ks.length→Q (.ref l) H'):oj [.ref d,.ref ld,.ref rd] H Q E:=⟨d,b,ld,rd,ns,n,kinds,rs,ws,g,ks,lx,rfl,p0,p1,p2,p3⟩
theorem Jh {d b tl bt nl:Addr} {ns:List Int} {n m:Nat} {kinds:List Str} {rs:List Rl} {zs:List Str} {H:Hp} {Q:VK} {E:XK} (p0:cu H d b ns n) (p1:n≤50000) (p2:TabAt H tl m) (p3:m≤40000) (p4:cy H bt kinds rs) (p5:Bk kinds rs) (p6:1≤rs.length) (p7:cg H nl zs) (p8:∀(l:Addr) (H':Hp),aq d H H'→H' d=some (.lst [.ref b,.int ((n+1:Nat):Int)])→H l=none→TabAt H' l (2*m+1)→Q (.ref l) H'):lz [.ref d,.ref tl,.ref bt,.ref nl] H Q E:=⟨d,b,tl,bt,nl,ns,n,m,kinds,rs,zs,rfl,p0,p1,p2,p3,p4,p5,p6,p7,p8⟩
theorem mkDueT {tl ld rd:Addr} {ts:List Addr} {tab:List Tr} {kinds:List Str} {rs:List Rl} {ws:List V} {g:Ky→Option Int} {ks:List Ky} {lx:List Addr} {H:Hp} {Q:VK} {E:XK} (p0:H tl=some (.lst (ts.map V.ref))) (p1:xk H ts tab) (p2:tab.length≤100000) (p3:Lst H kinds rs ws g ks lx ld rd) (p4:∀(c:Bool) (H':Hp),ak H H'→(c=true↔yf tab (rowsOf kinds rs ws g))→Q (.bl c) H'):zp [.ref tl,.ref ld,.ref rd] H Q E:=⟨tl,ld,rd,ts,tab,kinds,rs,ws,g,ks,lx,rfl,p0,p1,p2,p3,p4⟩
theorem Md {tl:Addr} {m:Nat} {H:Hp} {Q:VK} {E:XK} (p0:TabAt H tl m) (p1:m≤100000) (p2:∀(l:Addr) (H':Hp),ak H H'→H l=none→TabAt H' l m→Q (.ref l) H'):oh [.ref tl] H Q E:=⟨tl,m,rfl,p0,p1,p2⟩
end Pc
namespace K43
open PySem PySem.Spec L2 PyProof.Rows Pc
set_option hygiene false
set_option compiler.extract_closed false
local macro_rules | `(tactic| push_cast [$xs,*])=>`(tactic| simp only [↓Hy,↓Pj,↓Nv,↓Pa,↓exists_eq_left,↓exists_eq_left',↓int_ex,↓ref_ex,↓bl_ex,↓Nq,vn,Ea,rID,rUD,tBD,Ef,Mq,Me,Mc,tSeq,tIfS,tRet,tRetN,tNext,tVar,tC,Cp,tB,tOp,tUn,rI,rI0,rU,rEq,rNe,M4,tCB,tCons,tNil,tAnd,tOr,tNot,tAndV,tOrV,tNotV,tIf,cj,tAsg,tBM,tBM0,tSl,E4,K0,rSlS,rSlL,tLst,tTup,tDrop,tNoIf,iStr,iList,iTup,iRng1,iRng2,tLC,Ki,xg,List.set_cons_zero,List.set_cons_succ,List.getElem?_cons_zero,List.getElem?_cons_succ,Option.some.injEq,V.int.injEq,V.str.injEq,V.bl.injEq,V.ref.injEq,List.cons.injEq,exists_eq_left,exists_eq_left',exists_eq_right,exists_eq_right',exists_and_left,exists_and_right,and_true,true_and,List.cons_append,List.nil_append,List.append_nil,reduceCtorEq,false_and,exists_false,false_or,or_false,decide_eq_true_eq,eq_self,if_true,if_false,Bool.false_eq_true,Bool.true_eq_false,cxOf_K,cxOf_P,cxOf_w,Oj,cxOf_b,List.map_cons,List.map_nil,Option.getD_some,Option.getD_none,exists_const,nox_K,and_assoc,exists_eq,exists_eq',V.ty.injEq,tVals,Int.reduceLT,Int.reduceLE,Int.reduceNeg,Int.reducePow,Nat.reduceLT,Nat.reduceLeDiff,O8,Nc,pj,tCallV,tDIn,Gb,tDGet,iRev,tDNewK,sDPut,and_self,exists_prop,$xs,*])
set_option hygiene true
set_option compiler.extract_closed true
noncomputable def top (i:Nat):Stmt:=PySem.Challenge.pw_pricecover_k43_is_table.main.body.getD i (.Pass ⟨0,0,0,0⟩)
structure Gs (w:World) (K:PySem.W.Frag) (mg:Str→Option Value):Prop where
 m_bool:mg "bool"=none
 m_dict:mg "dict"=none
 m_int:mg "int"=none
 m_isinstance:mg "isinstance"=none
 m_len:mg "len"=none
 m_list:mg "list"=none
 m_max:mg "max"=none
 m_range:mg "range"=none
 m_reversed:mg "reversed"=none
 m_sorted:mg "sorted"=none
 m_str:mg "str"=none
 m_tuple:mg "tuple"=none
 m_zip:mg "zip"=none
 m_PARTS_BELOW:∃a,mg "PARTS_BELOW"=some (.ref a)∧ModD w K a [(Sum.inr "add",.int 2),(Sum.inr "sub",.int 2),(Sum.inr "mul",.int 2),(Sum.inr "neg",.int 1)]
def Fp (K:PySem.W.Frag):Sp:=λvs H Q _=>∃(a:Addr) (ns:List Int),vs=[.ref a]∧SqL K H a (ns.map V.int)∧ns.length≤63∧∀H',Q (.bl true) H'
def spT:Sp:=λvs H Q _=>False
set_option hygiene false
local macro_rules
 | `(A0 $a)=>`(@pl _ $a _ _ rfl rfl (by decide))
 | `(A1 $a $b)=>`(@Ak _ _ _ _ _ $a $b rfl)
 | `(A2 $_)=>`(@L3 _ _ _ _)
 | `(A3 $_)=>`(@Lq _)
 | `(A4 $a $b $c)=>`(@pe_op _ _ _ _ _ _ _ _ $a $b $c)
 | `(A5 $a $b)=>`(@La _ _ _ _ _ $a $b)
 | `(A6 $a)=>`(@Qb _ _ _ $a)
 | `(A7 $a $b $c)=>`(@Lb _ _ $a _ _ _ _ $b rfl (Or.inl rfl) $c rfl (.inl rfl))
 | `(A8 $a $b $c)=>`(@pe_ix _ _ _ _ _ _ _ $a $b $c (λ_ _=>rfl))
 | `(A9 $_)=>`(@O0 _)
 | `(AA $_)=>`(@nomark _ _ (by decide) (by decide))
 | `(AB $a $b $c $d)=>`(@Bw _ _ _ _ _ _ _ _ $a $b $c $d)
 | `(AC $a)=>`(@pe_lst _ _ _ _ $a)
 | `(AD $a)=>`(@ps_ret _ _ _ _ $a)
 | `(AE $a $b $c)=>`(@ps_if _ _ _ _ _ _ _ _ $a $b $c)
 | `(AF $_)=>`(@Kf _)
 | `(AG $a $b $c)=>`(@pe_has _ _ _ _ _ _ _ _ _ _ $a $b $c rfl (by decide+kernel) rfl rfl)
 | `(AH $a)=>`(@zg.str _ _ _ _ _ $a)
 | `(AI $a)=>`(@pe_tup _ _ _ _ _ $a)
 | `(AJ $a $b $c)=>`(@Fc _ _ $a _ $b rfl $c (.inl rfl))
 | `(AK $_)=>`(@Nh _)
 | `(AL $_)=>`(@K2 _ _ _ _)
 | `(AM $_)=>`(@Ff _)
 | `(AN $a $b $c $d)=>`(@L9 _ _ _ _ _ _ _ _ _ $a rfl $b $c $d (by decide) (by decide) rfl rfl)
 | `(AO $a)=>`(@pk _ $a _ _ rfl rfl (by decide))
 | `(AQ $_)=>`(@Ko _)
 | `(AR $_)=>`(@op_eq _)
 | `(AS $a)=>`(@Oe _ _ _ _ $a rfl)
 | `(AT $_)=>`(@O9 _)
 | `(AU $a $b $c $d $e $f)=>`(@pe_bm _ _ _ _ _ _ _ _ _ _ _ _ $a $b $c $d $e $f rfl rfl rfl rfl rfl)
 | `(AV $_)=>`(@x8 _)
 | `(AW $a $b)=>`(@J2 _ _ _ _ _ $a $b rfl)
 | `(AX $_)=>`(@xi _)
 | `(AY $a $b $c)=>`(@ps_for _ _ _ _ _ _ _ _ PassesOwn.never rfl $a $b $c (by ¿_;rfl))
 | `(AZ $a $b $c $d)=>`(@Hj _ _ _ _ _ _ _ _ _ $a rfl $b $c $d (by decide) (by decide) rfl rfl)
 | `(B0 $_)=>`(@Qi _)
 | `(B6 $a $b $c $d)=>`(@Kc _ _ _ _ _ _ _ _ _ _ $a $b $c $d)
 | `(B7 $_)=>`(@Pu _)
 | `(B9 $a)=>`(@My _ _ _ $a)
 | `(BA $a)=>`(@PW.pt _ _ _ $a)
 | `(BB $_)=>`(@pe_bl _ _ _ _)
 | `(BC $a $b $c)=>`(@Nf _ _ _ _ _ _ $a $b $c (λ_ _=>rfl))
 | `(BD $a)=>`(@Nm _ _ _ _ $a)
 | `(BE $a $b)=>`(@Fc _ _ $a _ $b rfl (Or.inl rfl) (.inr rfl))
 | `(BF $a)=>`(@Kl _ _ _ $a)
 | `(BG $_)=>`(@zg.nil)
 | `(BH $a $b $c)=>`(@Bw _ _ _ _ _ _ _ _ $a $b $c (by with_unfolding_all rfl))
 | `(BI $a $b)=>`(@Pz _ _ _ _ _ $a $b)
 | `(BJ $_)=>`(@wo _)
 | `(BK $a $b)=>`(@pw_and _ _ _ _ _ _ _ $a $b)
 | `(BL $a $b $c $d $e)=>`(@j0.mk _ _ $a $b $c _ rfl rfl rfl rfl $d rfl $e)
 | `(BM $a)=>`(@Pp _ _ _ _ $a)
 | `(BN $_)=>`(@Qr _)
 | `(BO $_)=>`(@Oa _)
 | `(BP $a $b)=>`(@Jb _ _ _ _ _ _ rfl $a $b rfl)
 | `(BQ $_)=>`(@Er _)
 | `(BR $_)=>`(@yq _)
 | `(BS $a)=>`(@Lr _ _ _ _ _ _ rfl $a rfl rfl)
 | `(BT $a $b)=>`(@P9 _ _ _ _ _ _ $a $b)
 | `(BU $a $b $c $d $e)=>`(@pe_lc _ _ _ _ _ _ _ _ _ _ _ _ _ _ _ $a rfl $b $c $d $e (by ¿_;rfl))
 | `(BV $a)=>`(@zg.int _ _ _ _ _ $a)
 | `(BW $a)=>`(@pi_tup _ _ _ _ $a)
 | `(BX $a)=>`(@Pk _ _ _ $a (by ¿_;rfl))
 | `(BY $a $b)=>`(@pw_or _ _ _ _ _ _ _ $a $b)
 | `(BZ $a $b)=>`(@pe_un _ _ _ _ _ _ $a $b)
 | `(C0 $a $b $c)=>`(@Lb _ _ $a _ _ _ _ $b rfl (Or.inr rfl) $c rfl (.inl rfl))
 | `(C1 $_)=>`(@Cw _)
 | `(C2 $a $b)=>`(@pe_gty _ _ _ _ $a $b rfl (by decide+kernel) (by decide+kernel))
 | `(C3 $a)=>`(@pw_or1 _ _ _ _ $a)
 | `(C4 $a $b)=>`(@Jp _ _ _ _ _ _ PassesOwn.never $a $b)
 | `(C5 $a $b $c $d)=>`(@Af _ _ _ _ _ _ _ _ $a $b $c $d)
 | `(C6 $a $b $c)=>`(@Ih _ _ _ _ _ $a $b $c)
 | `(C7 $a $b)=>`(@ps_asg _ _ _ _ _ _ $a $b rfl rfl rfl)
 | `(C8 $a $b $c)=>`(@pg_sub _ _ _ _ _ _ _ $a $b $c (by ¿_;rfl))
 | `(C9 $a $b $c $d $e)=>`(@pe_bm0 _ _ _ _ _ _ _ _ _ $a $b $c $d $e rfl rfl)
 | `(CA $a $b $c)=>`(@Le _ _ _ _ _ _ _ _ $a $b $c)
 | `(CB $a $b $c)=>`(@Jw _ _ _ _ _ _ _ _ _ $a $b $c)
set_option hygiene true
section
variable {P:Program} {w:World} {K:PySem.W.Frag} {mg:Str→Option Value} {base:Heap} {k:Nat}
noncomputable abbrev Ee:Stmt:=top 2
theorem scHow:az ["word"] ["word"] (ah Ee):=⟨rfl,rfl,rfl,by decide+kernel,rfl,by decide+kernel,by decide+kernel⟩
theorem hasHow (G:Gs w K mg) (D:Def K mg "how_many_below" Ee ["word"]):Has P w K mg base (k+1) "how_many_below" ["word"] vd:=by
 ¶D.has scHow (λvs H Q E h=>?_) (λf cdv A outer s H vs Q E hr h=>?_)
 ·£⟨_,rfl,_,_⟩:=h;rfl
 ¤nd:=scHow.nd;¤hu:=b9 hr;¤hu0:=Nat.lt_of_succ_lt hu;£⟨v,rfl,hw,q⟩:=h;£⟨a_PARTS_BELOW,m_PARTS_BELOW,s_PARTS_BELOW⟩:=G.m_PARTS_BELOW;¶⟨_,(A6 (AD (@Js _ _ _ _ _ _ _ _ _ _ (@Qa _ _ _ _ m_PARTS_BELOW rfl (by decide+kernel)) s_PARTS_BELOW (A0 0) (A2 0) (@M2.mk _ _ _ _ _ _ _ rfl rfl rfl rfl)))),?_⟩;rw[show start ["word"] [v]=[some (v)] from rfl];clear hu hu0 nd hr;push_cast [J0];£⟨k,rfl⟩:=hw;¶⟨k,rfl,?_⟩;show Q ((dh parts k).getD (V.int 0)) H
 rw[Hn];§q
noncomputable abbrev jg:Stmt:=top 3
theorem Bi:az ["words","place","lacking","at"] ["words","place"] (ah jg):=⟨rfl,rfl,rfl,by decide+kernel,rfl,by decide+kernel,by decide+kernel⟩
theorem Il (G:Gs w K mg) (h_how_many_below:Has P w K mg base k "how_many_below" ["word"] vd) (D:Def K mg "place_behind" jg ["words","place"]):Has P w K mg base (k+1) "place_behind" ["words","place"] (wd K):=by
 ¶D.has Bi (λvs H Q E h=>?_) (λf cdv A outer s H vs Q E hr h=>?_)
 ·£⟨_,_,_,_,rfl,_,_,_,_,_⟩:=h;rfl
 ¤nd:=Bi.nd;¤hu:=b9 hr;¤hu0:=Nat.lt_of_succ_lt hu;£⟨t,ws,p,n,rfl,hT,hw,hl,he,q⟩:=h;¶⟨_,(A5 (A7 2 nd (A2 0)) (A5 (A7 3 nd (A0 1)) (A5 (C4 (AB (@jd _) (A0 2) (A2 0) (AA 0)) (A5 (A7 2 nd (A4 (AK 0) (A4 (B0 0) (A0 2) (A2 0)) (AG h_how_many_below hr (A1 (A8 (AF 0) (A0 0) (A0 3)) (A3 0))))) (A6 (A7 3 nd (A4 (AK 0) (A0 3) (A2 0)))))) (A6 (AD (A0 3)))))),?_⟩;rw[show start ["words","place","lacking","at"] [.ref t,.int (p:Int)]=[some (.ref t),some (.int (p:Int)),none,none] from rfl];clear hu hu0 nd hr;push_cast [vd];¤hn:=wb _ _ _ he;rw[List.length_map,List.length_drop] at hn;¶kj (λσ H'=>∃(d j:Nat),σ=[some (.ref t),some (.int (p:Int)),some (.int (d:Int)),some (.int ((p+j:Nat):Int))]∧H'=H∧j≤n∧eat d ((ws.drop (p+j)).map arV)=some (n - j))
  (λσ _=>p+n - intAt σ 3) ⟨1,0,rfl,rfl,Nat.zero_le _,he⟩ ?_ ?_
 ·rintro σ H' ⟨d,j,rfl,rfl,hj,hd⟩;push_cast [vd];¶bu (λc=>?_) λc=>?_
  ·£⟨d',rfl⟩:∃d',d=d'+1:=⟨d - 1,¥⟩;¤hpos:=zm _ _ _ hd;¤hlt:p+j < ws.length:=by ¡
   ¤ed:ws.drop (p+j)=ws[p+j]::ws.drop (p+j+1):=List.drop_eq_getElem_cons hlt;rw[ed,List.map_cons,eg] at hd;£⟨m,hm,em⟩:=Option.map_eq_some_iff.mp hd;¶⟨t,ws,((p+j:Nat):Int),ws[p+j],rfl,rfl,hT,bo (List.getElem?_eq_getElem hlt),hw _ (List.getElem_mem hlt),⟨d'+arV ws[p+j],¥,j+1,¥,rfl,¥,?_⟩,?_⟩
   ·rw[show n - (j+1)=m by ¡];§hm
   ·show p+n - (((p+j:Nat):Int)+1).toNat < p+n - (((p+j:Nat):Int)).toNat
    ¡
  ·¤d0:d=0:=by ¡
   subst d0;rw[kf] at hd;have:n - j=0:=(Option.some.inj hd).symm;¤e:((p+j:Nat):Int)=(p:Int)+(n:Int):=by ¡
   rw[e];§q H' (ak.refl _)
 ·intro σ H' Q1 Q2 hq h;simp only[Cp,tOp,rI0,ja,tC,j6,jv,tB] at h ⊢;£⟨v,hv,i,j,e1,e2,k,e3,h⟩:=h;§⟨v,hv,i,j,e1,e2,k,e3,hq _ _ h⟩
noncomputable abbrev we:Stmt:=top 5
theorem Lx:az ["word","kinds"] ["word","kinds"] (ah we):=⟨rfl,rfl,rfl,by decide+kernel,rfl,by decide+kernel,by decide+kernel⟩
theorem Ov (G:Gs w K mg) (D:Def K mg "leaf_letter" we ["word","kinds"]):Has P w K mg base (k+1) "leaf_letter" ["word","kinds"] (jk K):=by
 ¶D.has Lx (λvs H Q E h=>?_) (λf cdv A outer s H vs Q E hr h=>?_)
 ·£⟨_,_,_,rfl,_,_,_⟩:=h;rfl
 ¤nd:=Lx.nd;¤hu:=b9 hr;¤hu0:=Nat.lt_of_succ_lt hu;£⟨v,kt,kinds,rfl,hv,hK,q⟩:=h;¶⟨_,(A5 (AE (AB (AR 0) (A0 0) (AL 0) (AA 0)) (A6 (AD (AL 0))) (AT 0)) (A5 (AE (AB (AR 0) (A0 0) (AL 0) (AA 0)) (A6 (AD (AL 0))) (AT 0)) (A6 (AD (CA (BH (BR 0) (A0 0) (A0 1)) (AL 0) (AL 0)))))),?_⟩;rw[show start ["word","kinds"] [v,.ref kt]=[some (v),some (.ref kt)] from rfl];clear hu hu0 nd hr;push_cast [rIn];¤fl:(kinds.map V.str).all ij=true:=List.all_eq_true.mpr λx hx=>by £⟨z,_,rfl⟩:=List.mem_map.mp hx;rfl
 unfold cm ig gq lN lV lH lO at q;¶⟨hv.sc _,bu (λe=>?_) λn1=>⟨hv.sc _,bu (λe=>?_) λn2=>⟨_,.inr hK,hv.flat,fl,bu (λe=>?_) λe=>?_⟩⟩⟩
 ·rw[if_pos e] at q;§q
 ·rw[if_neg n1,if_pos e] at q;§q
 ·rw[if_neg n1,if_neg n2,if_pos e] at q;§q
 ·rw[if_neg n1,if_neg n2,if_neg e] at q;§q
noncomputable abbrev vy:Stmt:=top 7
theorem Ms:az ["letter","shape_word","word"] ["letter","shape_word","word"] (ah vy):=⟨rfl,rfl,rfl,by decide+kernel,rfl,by decide+kernel,by decide+kernel⟩
theorem Pm (G:Gs w K mg) (h_how_many_below:Has P w K mg base k "how_many_below" ["word"] vd) (D:Def K mg "lies_upon" vy ["letter","shape_word","word"]):Has P w K mg base (k+1) "lies_upon" ["letter","shape_word","word"] zw:=by
 ¶D.has Ms (λvs H Q E h=>?_) (λf cdv A outer s H vs Q E hr h=>?_)
 ·£⟨_,_,_,rfl,_,_,_⟩:=h;rfl
 ¤nd:=Ms.nd;¤hu:=b9 hr;¤hu0:=Nat.lt_of_succ_lt hu;£⟨l,v,x,rfl,hv,hx,q⟩:=h;¤m_isinstance:=G.m_isinstance;¤m_str:=G.m_str;¶⟨_,(A5 (AE (AB (AR 0) (A0 0) (AL 0) (AA 0)) (A6 (AD (BB 0))) (AT 0)) (A5 (AE (AB (AR 0) (A0 0) (AL 0) (AA 0)) (A6 (AD (@pe_not _ _ _ _ (AN (C1 0) m_isinstance dr (A1 (A0 2) (A1 (C2 m_str Gd) (A3 0))))))) (AT 0)) (A5 (AE (AB (AR 0) (A0 0) (AL 0) (AA 0)) (A6 (AD (@pe_and _ _ _ _ _ _ _ (AN (C1 0) m_isinstance dr (A1 (A0 2) (A1 (C2 m_str Gd) (A3 0)))) (@pe_one _ _ _ _ _ (C5 (AR 0) (AG h_how_many_below hr (A1 (A0 2) (A3 0))) (A2 0) (AA 0)))))) (AT 0)) (A6 (AD (C5 (AR 0) (A0 1) (A0 2) (AA 0))))))),?_⟩;rw[show start ["letter","shape_word","word"] [.str l,v,x]=[some (.str l),some (v),some (x)] from rfl];clear hu hu0 nd hr;push_cast [vd];unfold lies lH lN lV at q;¶⟨rfl,bu (λe=>?_) λn1=>⟨rfl,bu (λe=>?_) λn2=>⟨rfl,bu (λe=>?_) λn3=>⟨hv.sc2 hx,?_⟩⟩⟩⟩
 ·rw[if_pos e] at q;§q
 ·rw[if_neg n1,if_pos e] at q;£⟨k',rfl⟩:=hx;cases k' with
  | inl i=>§⟨_,.int i,false,rfl,q⟩
  | inr z=>§⟨_,.str z,true,rfl,q⟩
 ·rw[if_neg n1,if_neg n2,if_pos e] at q;¤hx':=hx;£⟨k',rfl⟩:=hx;cases k' with
  | inl i=>§⟨_,.int i,false,rfl,iteF q⟩
  | inr z=>
   ¶⟨_,.str z,true,rfl,iteT ⟨hx',rfl,?_⟩⟩;rw[show decide (((arV (kV (Sum.inr z)):Nat):Int)=0)=decide (arV (kV (Sum.inr z))=0) from decide_eq_decide.mpr ¥];§q
 ·rw[if_neg n1,if_neg n2,if_neg n3] at q;§q
noncomputable abbrev vc:Stmt:=top 8
theorem Jq:az ["shape","kinds","words","place","under","at","shape_word","letter"] ["shape","kinds","words","place"] (ah vc):=⟨rfl,rfl,rfl,by decide+kernel,rfl,by decide+kernel,by decide+kernel⟩
theorem Pe (G:Gs w K mg) (h_leaf_letter:Has P w K mg base k "leaf_letter" ["word","kinds"] (jk K)) (h_lies_upon:Has P w K mg base k "lies_upon" ["letter","shape_word","word"] zw) (h_place_behind:Has P w K mg base k "place_behind" ["words","place"] (wd K)) (D:Def K mg "laid" vc ["shape","kinds","words","place"]):Has P w K mg base (k+1) "laid" ["shape","kinds","words","place"] (Ai K):=by
 ¶D.has Jq (λvs H Q E h=>?_) (λf cdv A outer s H vs Q E hr h=>?_)
 ·£⟨_,_,_,_,_,_,_,_,rfl,_,_,_,_,_,_,_,_,_,_,_⟩:=h;rfl
 ¤nd:=Jq.nd;¤hu:=b9 hr;¤hu0:=Nat.lt_of_succ_lt hu;£⟨st,kt,wt,sh,kinds,ws,p,n,rfl,hS,hK,hW,hk,hs,hw,hTm,he,hl1,hl2,q⟩:=h;¤m_tuple:=G.m_tuple;¶⟨_,(A5 (A7 4 nd (@P0 _ _ _ _ _ (CB (AL 0) (AC (A3 0)) (CB (AL 0) (AC (A3 0)) (CB (AL 0) (AC (A3 0)) (@Qt _ _)))) rfl rfl (λe=>nomatch e) (by decide))) (A5 (A7 5 nd (A0 3)) (A5 (AY (BW (A0 0)) (AJ 6 nd (by first | §Or.inl rfl | §Or.inr rfl)) (A5 (A7 7 nd (AG h_leaf_letter hr (A1 (A0 6) (A1 (A0 1) (A3 0))))) (A5 (AE (@Dz _ _ _ _ (BX (AG h_lies_upon hr (A1 (A0 7) (A1 (A0 6) (A1 (A8 (AF 0) (A0 2) (A0 5)) (A3 0))))))) (A6 (AD (@Ed _ _ _))) (AT 0)) (BI (AE (AB (@Cs _) (A0 7) (AL 0) (AA 0)) (A6 (AS (AU PySem.F.plainAttrs_list PySem.F.slot_list_append PySem.F.type_list_append (AV 0) (BC hu (A0 4) (A0 7)) (A1 (CA (AB (AR 0) (A0 7) (AL 0) (AA 0)) (A0 5) (A8 (AF 0) (A0 2) (A0 5))) (A3 0))))) (AT 0)) (A6 (A7 5 nd (CA (AB (AR 0) (A0 7) (AL 0) (AA 0)) (AG h_place_behind hr (A1 (A0 2) (A1 (A0 5) (A3 0)))) (A4 (AK 0) (A0 5) (A2 0))))))))) (A6 (AD (AI (A1 (AZ (BJ 0) m_tuple fc (A1 (BC hu (A0 4) (AL 0)) (A3 0))) (A1 (AZ (BJ 0) m_tuple fc (A1 (BC hu (A0 4) (AL 0)) (A3 0))) (A1 (AZ (BJ 0) m_tuple fc (A1 (BC hu (A0 4) (AL 0)) (A3 0))) (A3 0)))))))))),?_⟩;rw[show start ["shape","kinds","words","place","under","at","shape_word","letter"] [.ref st,.ref kt,.ref wt,.int (p:Int)]=[some (.ref st),some (.ref kt),some (.ref wt),some (.int (p:Int)),none,none,none,none] from rfl];clear hu hu0 nd hr;push_cast [tDisp,yz];¤sz:=sizeLine_eq;¶λu0 h0=>⟨Nat.zero_le _,λl1 h1=>⟨Nat.zero_le _,λl2 h2=>⟨Nat.zero_le _,λl3 h3=>⟨aa h3 _ _ _ (aa h2 _ _ _ (aa h1 _ _ _ ae)),[(Sum.inr lH,.ref l1),(Sum.inr lN,.ref l2),(Sum.inr lV,.ref l3)],rfl,by show (3:Nat)≤15;decide,?_⟩⟩⟩⟩;rw[show qp [] [(Sum.inr lH,V.ref l1),(Sum.inr lN,V.ref l2),(Sum.inr lV,V.ref l3)]=[(Sum.inr lH,V.ref l1),(Sum.inr lN,V.ref l2),(Sum.inr lV,V.ref l3)] from rfl];¤n10:l1≠u0:=(ag ae h1).symm;¤n20:l2≠u0:=(ag (aa h1 _ _ _ ae) h2).symm;¤n30:l3≠u0:=(ag (aa h2 _ _ _ (aa h1 _ _ _ ae)) h3).symm;¤n21:l2≠l1:=(ag ae h2).symm;¤n31:l3≠l1:=(ag (aa h2 _ _ _ ae) h3).symm;¤n32:l3≠l2:=(ag ae h3).symm;¤S1:=aa h0 (.dK []);¤f1:=S1.free h1;¤S2:=S1.trans (aa h1 (.lst []));¤f2:=S2.free h2;¤S3:=S2.trans (aa h2 (.lst []));¤f3:=S3.free h3;¤S4:=(S3.trans (aa h3 (.lst []))).upd h0 (.dK [(Sum.inr lH,V.ref l1),(Sum.inr lN,V.ref l2),(Sum.inr lV,V.ref l3)]);¤U4:UAt (upd (upd (upd (upd (upd H u0 (.dK [])) l1 (.lst [])) l2 (.lst [])) l3 (.lst [])) u0 (.dK [(Sum.inr lH,V.ref l1),(Sum.inr lN,V.ref l2),(Sum.inr lV,V.ref l3)])) u0 l1 l2 l3 ⟨[],[],[]⟩:=
  ⟨ae,by rw[af n10,af n31.symm,af n21.symm,ae];rfl,by rw[af n20,af n32.symm,ae],by rw[af n30,ae]⟩
 generalize upd (upd (upd (upd (upd H u0 (.dK [])) l1 (.lst [])) l2 (.lst [])) l3 (.lst [])) u0 (.dK [(Sum.inr lH,V.ref l1),(Sum.inr lN,V.ref l2),(Sum.inr lV,V.ref l3)])=H4 at S4 U4 ⊢;£⟨P1,eP1⟩:∃P1:Nat→L2.St→Hp→Prop,∀i σ H',P1 i σ H'↔∃(q':Nat) (u:Und) (v6 v7:Option V),σ=[some (.ref st),some (.ref kt),some (.ref wt),some (.int (p:Int)),some (.ref u0),some (.int (q':Int)),v6,v7]∧ak H H'∧UAt H' u0 l1 l2 l3 u∧dy kinds ws (sh.drop i) q' u=dy kinds ws sh p ⟨[],[],[]⟩∧(u.hs.length≤i∧u.ns.length≤i∧u.vs.length≤i)∧Dg u∧∃d m,pend d ((sh.drop i).map arV)=some 0∧eat d ((ws.drop q').map arV)=some m:=⟨_,λ_ _ _=>Iff.rfl⟩;¶⟨⟨sh,S4.tup hS⟩,qd (xs:=sh) P1 ((eP1 _ _ _).mpr ⟨p,⟨[],[],[]⟩,none,none,rfl,S4,U4,rfl,⟨Nat.zero_le _,Nat.zero_le _,Nat.zero_le _⟩,⟨(λ_ h=>nomatch h),(λ_ h=>nomatch h)⟩,1,n,hTm,he⟩) (λi σ H' _ h=>by £⟨_,_,_,_,_,s,_⟩:=(eP1 _ _ _).mp h;§s.tup hS) ?_ ?_⟩
 ·¿i v σ H5 hvi hh;¶ob4 ((eP1 _ _ _).mp hh) λq' u v6 v7 hh=>?_;¤s5:=hh.2.1;¤U5:=hh.2.2.1;¤e5:=hh.2.2.2.1;¤hul:=hh.2.2.2.2.1;¤huw:=hh.2.2.2.2.2.1;¤hdm:=hh.2.2.2.2.2.2;£rfl:=hh.1;clear hh;£⟨d,m,hp5,he5⟩:=hdm;¤fin:∀(q2:Nat) (z:Int) (u2:Und) (w6 w7:Option V) (H':Hp),z=(q2:Int)→ak H H'→UAt H' u0 l1 l2 l3 u2→dy kinds ws (sh.drop (i+1)) q2 u2=dy kinds ws sh p ⟨[],[],[]⟩→(u2.hs.length≤i+1∧u2.ns.length≤i+1∧u2.vs.length≤i+1)→Dg u2→(∃d m,pend d ((sh.drop (i+1)).map arV)=some 0∧eat d ((ws.drop q2).map arV)=some m)→P1 (i+1) [some (.ref st),some (.ref kt),some (.ref wt),some (.int (p:Int)),some (.ref u0),some (.int z),w6,w7] H':=λq2 z u2 w6 w7 H' ez a1 a2 a3 a4 a5 a6=>(eP1 _ _ _).mpr ⟨q2,u2,w6,w7,by rw[ez],a1,a2,a3,a4,a5,a6⟩;¤hil:i < sh.length:=(List.getElem?_eq_some_iff.mp hvi).1;¤ed:sh.drop i=v::sh.drop (i+1):=by
   rw[List.drop_eq_getElem_cons hil];congr 1
   rw[List.getElem?_eq_getElem hil] at hvi;§Option.some.inj hvi
  rw[ed] at e5 hp5;£⟨d',rfl⟩:∃d',d=d'+1:=by
   cases d with
   | zero=>cases hp5
   | succ d'=>§⟨d',rfl⟩
  ¤hq:q' < ws.length:=by
   ¤a1:=zm _ _ _ he5;¤a2:=wb _ _ _ he5;rw[List.length_map,List.length_drop] at a2;¡
  ¤hx:ws[q']?=some ws[q']:=List.getElem?_eq_getElem hq;¤hxw:=hw _ (List.getElem_mem hq);¤hat:atI ws (q':Int)=some ws[q']:=bo hx;¤hvw:=hs v (List.mem_of_getElem? hvi);¤hgd:ws.getD q' .non=ws[q']:=by rw[List.getD_eq_getElem?_getD,hx];rfl
  rw[m6,hgd] at e5;generalize ws[q']=x at hx hxw hat hgd e5;push_cast [and_true];¶Qs hvw (s5.tup hK) ?_;push_cast [and_true];¶⟨wt,ws,(q':Int),x,rfl,rfl,s5.tup hW,hat,mkLies hvw hxw ?_⟩;push_cast [and_true];cases hli:lies (cm kinds v) v x with
  | false=>
   rw[hli,if_neg (by decide)] at e5;rw[if_pos (show (!false)=true from rfl)];¤z:=q H5 s5;rw[←e5] at z;§z
  | true=>
   rw[hli,if_pos rfl] at e5;rw[if_neg (show ¬(!true)=true by decide)];£⟨d2,m2,hp6,he6⟩:=jb hk hvw hx hxw hp5 he5 hli;¤hul':=u.Fb (cm kinds v) q' x hul;¤huw':=huw.put hxw (cm kinds v) q';£⟨b1,b2,b3,b4,b5,b6⟩:=lets;¶fb (λσ' H6=>σ'=[some (.ref st),some (.ref kt),some (.ref wt),some (.int (p:Int)),some (.ref u0),some (.int (q':Int)),some v,some (.str (cm kinds v))]∧ak H H6∧UAt H6 u0 l1 l2 l3 (u.put (cm kinds v) q' x)) ?_ ?_
   ·push_cast [and_true];¶⟨rfl,?_⟩;rcases gh (kinds:=kinds) hvw with ⟨_,h⟩ | ⟨_,h⟩ | ⟨_,h⟩ | ⟨h,_⟩
    ·rw[h,if_pos (by decide+kernel)];¶⟨_,U5.get2,av U5.2.2.1,rfl,?_⟩;rw[if_neg (show ¬lN=Str.ofString "h" from b1)];§⟨wt,ws,_,x,rfl,rfl,s5.tup hW,hat,(bb (K:=K) U5.2.2.1 ¥ ⟨s5.upd f2 _,U5.put2 n20 n21 n32 q' x⟩).2⟩
    ·rw[h,if_pos (by decide+kernel)];¶⟨_,U5.get3,av U5.2.2.2,rfl,?_⟩;rw[if_neg (show ¬lV=Str.ofString "h" from b2)];§⟨wt,ws,_,x,rfl,rfl,s5.tup hW,hat,(bb (K:=K) U5.2.2.2 ¥ ⟨s5.upd f3 _,U5.put3 n30 n31 n32 q' x⟩).2⟩
    ·rw[h,if_pos (by decide+kernel)];¶⟨_,U5.get1,av U5.2.1,rfl,?_⟩;rw[if_pos (show lH=Str.ofString "h" from rfl)];§(bb (K:=K) U5.2.1 (by rw[List.length_map];¡) ⟨s5.upd f1 _,U5.put1 n10 n21 n31 q' x⟩).2
    ·rw[h,if_neg (by decide+kernel),u.put0];§⟨s5,U5⟩
   ·rintro _ H6 ⟨rfl,s6,U6⟩;push_cast [and_true];¶⟨rfl,bu (λhH=>?_) λhH=>?_⟩
    ·¤hH:cm kinds v=lH:=hH;rw[if_pos hH] at e5 he6;£⟨n1,hn1⟩:=Fz he5;¤en:endAt ws q'=q'+n1:=by unfold endAt;rw[hn1];rfl
     rw[en] at e5 he6;§⟨wt,ws,q',n1,rfl,s6.tup hW,hw,¥,hn1,λH7 s7=>fin (q'+n1) _ _ _ _ _ ¥ (s6.trans s7) (U6.same s7) e5 hul' huw' ⟨d2,m2,hp6,he6⟩⟩
    ·¤hH:¬cm kinds v=lH:=hH;rw[if_neg hH] at e5 he6;§fin (q'+1) _ _ _ _ _ ¥ s6 U6 e5 hul' huw' ⟨d2,m2,hp6,he6⟩
 ·intro σ H5 hh;¶ob4 ((eP1 _ _ _).mp hh) λq' u v6 v7 hh=>?_;¤s5:=hh.2.1;¤U5:=hh.2.2.1;¤e5:=hh.2.2.2.1;¤hul:=hh.2.2.2.2.1;¤huw:=hh.2.2.2.2.2.1;¤hdm:=hh.2.2.2.2.2.2;£rfl:=hh.1;clear hh;£⟨d,m,hp5,he5⟩:=hdm;rw[List.drop_length] at e5;¤z:=q H5 s5;rw[←e5] at z;push_cast [and_true];¶⟨_,U5.get1,_,.inl ⟨SqL.of U5.2.1,λt1 ht1=>?_⟩⟩;¤U6:=U5.same (aa ht1 (.tup (u.hs.map plV)));¶⟨_,U6.get2,_,.inl ⟨SqL.of U6.2.2.1,λt2 ht2=>?_⟩⟩;¤U7:=U6.same (aa ht2 (.tup u.ns));¶⟨_,U7.get3,_,.inl ⟨SqL.of U7.2.2.2,λt3 ht3=>⟨by show (3:Nat)≤sizeLine;decide,λt ht=>?_⟩⟩⟩;§z t _ ((aa ht1 _).trans ((aa ht2 _).trans ((aa ht3 _).trans (aa ht _)))) ⟨t1,t2,t3,ae,aa ht _ _ _ (aa ht3 _ _ _ (aa ht2 _ _ _ ae)),aa ht _ _ _ (aa ht3 _ _ _ ae),aa ht _ _ _ ae⟩ ⟨⟨huw.1,¥⟩,⟨huw.2,¥⟩,¥⟩
noncomputable abbrev jn:Stmt:=top 9
theorem Bv:az ["shape","kinds","under","hole_kinds"] ["shape","kinds","under"] (ah jn):=⟨rfl,rfl,rfl,by decide+kernel,rfl,by decide+kernel,by decide+kernel⟩
theorem Ia (G:Gs w K mg) (h_leaf_letter:Has P w K mg base k "leaf_letter" ["word","kinds"] (jk K)) (D:Def K mg "holes_under" jn ["shape","kinds","under"]):Has P w K mg base (k+1) "holes_under" ["shape","kinds","under"] (ou K):=by
 ¶D.has Bv (λvs H Q E h=>?_) (λf cdv A outer s H vs Q E hr h=>?_)
 ·£⟨_,_,_,_,_,_,rfl,_,_,_,_,_,_,_,_⟩:=h;rfl
 ¤nd:=Bv.nd;¤hu:=b9 hr;¤hu0:=Nat.lt_of_succ_lt hu;£⟨st,kt,ut,sh,kinds,u,rfl,hS,hK,hU,hk,hw,hl,hn,q⟩:=h;¤m_list:=G.m_list;¤m_zip:=G.m_zip;¶⟨_,(A5 (@Ar _ _ _ _ _ _ _ _ _ _ _ _ _ _ _ 3 _ _ _ nd rfl (Or.inl rfl) (BL ["word"] ["kinds"] [1] (And.intro rfl trivial) (And.intro (And.intro rfl (And.intro rfl rfl)) trivial)) rfl (BW (A0 0)) (λ_ _ _=>(BE 0 (show List.Nodup (["word","kinds"]:List Str) by decide+kernel))) (λ_ _ _=>(@pif1 _ _ _ (AB (AR 0) (AG h_leaf_letter hr (A1 (A0 0) (A1 (AO 1) (A3 0)))) (AL 0) (AA 0)))) (λ_ _ _=>(A0 0)) rfl (by ¿_;rfl) (.inl rfl)) (A6 (AD (@vm _ _ _ _ _ _ _ _ rfl rfl m_list rfl m_zip (A1 (A8 (AF 0) (A0 2) (A2 0)) (A1 (A0 3) (A3 0))) rfl rfl rfl)))),?_⟩;rw[show start ["shape","kinds","under","hole_kinds"] [.ref st,.ref kt,.ref ut]=[some (.ref st),some (.ref kt),some (.ref ut),none] from rfl];clear hu hu0 nd hr;push_cast [jk];¤sz:=sizeLine_eq;¶⟨⟨sh,hS⟩,λl hl'=>?_⟩;¶Dd (xs:=sh) (λi ys=>ys=(sh.take i).filter (isH kinds)) hS ¥ hl' rfl (λi x ys H3 G' K' hx hP hl2 hS' hG hK'=>?_) λys H3 hP hl2 hS' hD2=>?_
 ·¤hxw:=hw x (List.mem_of_getElem? hx);¤et:sh.take (i+1)=sh.take i++[x]:=by rw[List.take_add_one,hx];rfl
  push_cast [jk];¶⟨hxw,kinds,hS'.tup hK,rfl,bu (λe=>?_) λe=>?_⟩
  ·¶hK' _ _ (ak.refl _) ?_;rw[et,List.filter_append,←hP,List.filter_cons,if_pos ((ny hk hxw).mp e)];rfl
  ·¶hG _ (ak.refl _) ?_;rw[et,List.filter_append,←hP,List.filter_cons,if_neg λz=>e ((ny hk hxw).mpr z)];§(List.append_nil _).symm
 ·rw[List.take_length,←jc] at hP;subst hP;£⟨t1,t2,t3,h1,h2,_⟩:=hU;push_cast [tLZ];¶au (hS' _ _ h1) rfl ⟨t1,rfl,u.hs.map plV,SqT.of (hS' _ _ h2),(ba kinds sh).map V.str,SqL.of hD2,by rw[List.length_map,List.length_map,hn],λl2 as H2 s2 hl2 hal hL hA=>q l2 H2 (hS'.trans s2) (hS'.free hl2) ⟨as,hL,?_,λj k hj=>?_⟩⟩
  ·rw[hal,List.length_map,List.length_zip,hn,Nat.min_self]
  ·£⟨g1,g2⟩:=List.getElem?_zip_eq_some.mp (show (u.hs.zip (ba kinds sh))[j]?=some (k.1,k.2) from hj);§hA j _ _ (by rw[List.getElem?_map,g1];rfl) (by rw[List.getElem?_map,g2];rfl)
noncomputable abbrev gv:Stmt:=top 10
theorem yt:az ["book","words","place","fitting","name","kind","price","shape","deeds","under"] ["book","words","place"] (ah gv):=⟨rfl,rfl,rfl,by decide+kernel,rfl,by decide+kernel,by decide+kernel⟩
theorem Et (G:Gs w K mg) (h_holes_under:Has P w K mg base k "holes_under" ["shape","kinds","under"] (ou K)) (h_laid:Has P w K mg base k "laid" ["shape","kinds","words","place"] (Ai K)) (D:Def K mg "fitting_rules" gv ["book","words","place"]):Has P w K mg base (k+1) "fitting_rules" ["book","words","place"] kq:=by
 ¶D.has yt (λvs H Q E h=>?_) (λf cdv A outer s H vs Q E hr h=>?_)
 ·£⟨_,_,_,_,_,_,rfl,_,_,_,_,_,_⟩:=h;rfl
 ¤nd:=yt.nd;¤hu:=b9 hr;¤hu0:=Nat.lt_of_succ_lt hu;£⟨b,wt,kinds,rs,ws,p,rfl,hB,hW,bk,tw,hp,q⟩:=h;¶⟨_,(A5 (A7 3 nd (AC (A3 0))) (A5 (AY (BW (A8 (AF 0) (A0 0) (A2 0))) (BS (AW (AJ 4 nd (by first | §Or.inl rfl | §Or.inr rfl)) (AW (AJ 5 nd (by first | §Or.inl rfl | §Or.inr rfl)) (AW (AJ 6 nd (by first | §Or.inl rfl | §Or.inr rfl)) (AW (AJ 7 nd (by first | §Or.inl rfl | §Or.inr rfl)) (AW (AJ 8 nd (by first | §Or.inl rfl | §Or.inr rfl)) (BO 0))))))) (A5 (A7 9 nd (AG h_laid hr (A1 (A0 7) (A1 (A8 (AF 0) (A0 0) (A2 0)) (A1 (A0 1) (A1 (A0 2) (A3 0))))))) (A6 (AE (BT (@zf _ _ _ _ _ (A0 9)) (by first | §fw _ (by decide) (by decide) | rfl)) (A6 (AS (AU PySem.F.plainAttrs_list PySem.F.slot_list_append PySem.F.type_list_append (AV 0) (A0 3) (A1 (AI (A1 (A0 4) (A1 (A0 5) (A1 (A0 6) (A1 (AG h_holes_under hr (A1 (A0 7) (A1 (A8 (AF 0) (A0 0) (A2 0)) (A1 (A0 9) (A3 0))))) (A3 0)))))) (A3 0))))) (AT 0))))) (A6 (AD (A0 3))))),?_⟩;rw[show start ["book","words","place","fitting","name","kind","price","shape","deeds","under"] [.ref b,.ref wt,.int (p:Int)]=[some (.ref b),some (.ref wt),some (.int (p:Int)),none,none,none,none,none,none,none] from rfl];clear hu hu0 nd hr;push_cast [and_true];¤sz:=sizeLine_eq;¤rl:=bk.len;¶⟨Nat.zero_le _,λfl hfl=>?_⟩;¤S1:=aa hfl (.lst []);£⟨kt,rt,ra,hb,hkt,hrt,hRA⟩:=hB;¶au (S1 _ _ hb) rfl ⟨rt,rfl,⟨_,SqT.of (S1 _ _ hrt)⟩,?_⟩;£⟨P1,eP1⟩:∃P1:Nat→L2.St→Hp→Prop,∀j σ H',P1 j σ H'↔∃(as:List Addr) (v4 v5 v6 v7 v8 v9:Option V),σ=[some (.ref b),some (.ref wt),some (.int (p:Int)),some (.ref fl),v4,v5,v6,v7,v8,v9]∧ak H H'∧H' fl=some (.lst (as.map V.ref))∧dj H' (λx=>H x≠none∨x=fl) as ((rs.take j).filterMap (kg kinds ws p)):=⟨_,λ_ _ _=>Iff.rfl⟩;¶qd (xs:=ra.map V.ref) P1 ((eP1 _ _ _).mpr ⟨[],none,none,none,none,none,none,rfl,S1,ae,dj.nil _ _⟩) (λj σ H' _ h=>by £⟨_,_,_,_,_,_,_,_,s,_⟩:=(eP1 _ _ _).mp h;§SqT.of (s _ _ hrt)) ?_ ?_
 ·¿j y σ H5 hy hh;¶ob7 ((eP1 _ _ _).mp hh) λas v4 v5 v6 v7 v8 v9 hh=>?_;¤s5:=hh.2.1;¤f5:=hh.2.2.1;¤F5:=hh.2.2.2;£rfl:=hh.1;clear hh;rw[List.getElem?_map] at hy;£⟨aj,haj,rfl⟩:=Option.map_eq_some_iff.mp hy;¤hjl:j < rs.length:=by rw[←hRA.1];§(List.getElem?_eq_some_iff.mp haj).1
  ¤hrj:rs[j]?=some rs[j]:=List.getElem?_eq_getElem hjl;£⟨a',ha',sa,da,ds,g1,g2,g3⟩:=hRA.2 j _ hrj;£rfl:a'=aj:=Option.some.inj (ha'.symm.trans haj);generalize rs[j]=r at hrj g1 g2;¤hrm:=List.mem_of_getElem? hrj;£⟨n,hn⟩:=tw.eat hp;£⟨w1,w2,w3⟩:=bk.sh r hrm;¤twl:=tw.len;¤et:(rs.take (j+1)).filterMap (kg kinds ws p)=(rs.take j).filterMap (kg kinds ws p)++(kg kinds ws p r).toList:=by
   rw[List.take_add_one,hrj,List.filterMap_append];congr 1
  ¶Mj (s5 _ _ g1) rfl ?_;push_cast [and_true];¶au (s5 _ _ hb) rfl (mkLaid (n:=n) (SqT.of (s5 _ _ g2)) (SqT.of (s5 _ _ hkt)) (SqT.of (s5 _ _ hW)) bk.kd w1 (λv hv=>(tw.w v hv).1) w2 hn ¥ twl λH6 s6=>?_);¤S6:=s5.trans s6;cases hu:dy kinds ws r.shape p ⟨[],[],[]⟩ with
  | none=>
   ¤ef:kg kinds ws p r=none:=by unfold kg;rw[hu];rfl
   ¶yb ?_;push_cast [vt];rw[if_neg (by simp)];¶(eP1 _ _ _).mpr ⟨as,_,_,_,_,_,_,rfl,S6,s6 _ _ f5,?_⟩;rw[et,ef,show (none:Option Pc.Fr).toList=[] from rfl,List.append_nil];§F5.kx (Kx.same s6)
  | some u=>
   ¿t H7 s7 hu7 ok7;¤ef:kg kinds ws p r=some ⟨r.name,r.kind,r.price,u.hs.zip (ba kinds r.shape)⟩:=by unfold kg;rw[hu];rfl
   ¤S7:=S6.trans s7;push_cast [vt];rw[if_pos (by simp)];¤s57:=s6.trans s7;¤f7:=s57 _ _ f5;¶⟨av f7,au (S7 _ _ hb) rfl (Ka (SqT.of (S7 _ _ g2)) (SqT.of (S7 _ _ hkt)) hu7 bk.kd w1 ¥ (by have:=(sf bk.kd r.shape p _ u w1 hu).1;simpa using this) λl H8 s8 hl8 hh8=>⟨by show (4:Nat)≤sizeLine;decide,λpr hpr=>?_⟩)⟩;¤s9:=aa hpr (.tup [V.str r.name,V.str r.kind,V.int r.price,V.ref l]);¤e9:upd H8 pr (.tup [V.str r.name,V.str r.kind,V.int r.price,V.ref l]) pr=some (.tup [V.str r.name,V.str r.kind,V.int r.price,V.ref l]):=ae;generalize upd H8 pr (.tup [V.str r.name,V.str r.kind,V.int r.price,V.ref l])=H9 at s9 e9 ⊢;¤s79:=s8.trans s9;¤f9:=s79 _ _ f7;¤fal:as.length≤100:=by
    rw[F5.1];§Nat.le_trans (List.length_filterMap_le _ _) (by rw[List.length_take];¡)
   ¶(bb (K:=K) f9 (by rw[List.length_map];¡) ((eP1 _ _ _).mpr ⟨as++[pr],_,_,_,_,_,_,rfl,(S7.trans s79).upd hfl _,by rw[ae,List.map_append];rfl,?_⟩)).2;rw[et,ef];¶dj.kx (dj.snoc (F5.kx (Kx.same (s57.trans s79))) ⟨l,?_,e9,hh8.same s9⟩) ((Kx.upd f9).weak λx hx=>.inr hx);rintro (z | z)
   ·§z (S7.free hl8)
   ·§(ag f7 hl8) z.symm
 ·intro σ H5 hh;¶ob7 ((eP1 _ _ _).mp hh) λas v4 v5 v6 v7 v8 v9 hh=>?_;¤s5:=hh.2.1;¤f5:=hh.2.2.1;¤F5:=hh.2.2.2;£rfl:=hh.1;clear hh;push_cast [and_true];rw[List.length_map,List.take_of_length_le (by rw[hRA.1];§Nat.le_refl _)] at F5;§q fl as H5 s5 hfl f5 (F5.weak λx hx=>.inl hx)
noncomputable abbrev ng:Stmt:=top 11
theorem Gi:az ["own","holes","least","total","hole"] ["own","holes","least"] (ah ng):=⟨rfl,rfl,rfl,by decide+kernel,rfl,by decide+kernel,by decide+kernel⟩
theorem M3 (G:Gs w K mg) (D:Def K mg "price_there" ng ["own","holes","least"]):Has P w K mg base (k+1) "price_there" ["own","holes","least"] jm:=by
 ¶D.has Gi (λvs H Q E h=>?_) (λf cdv A outer s H vs Q E hr h=>?_)
 ·£⟨_,_,_,_,_,_,rfl,_,_,_⟩:=h;rfl
 ¤nd:=Gi.nd;¤hu:=b9 hr;¤hu0:=Nat.lt_of_succ_lt hu;£⟨own,hl,d,hs,g,n,rfl,hH,hT,q⟩:=h;¶⟨_,(A5 (A7 3 nd (A0 0)) (A5 (AY (BD (A0 1)) (AJ 4 nd (by first | §Or.inl rfl | §Or.inr rfl)) (A5 (AE (BT (C6 hu (A0 4) (A0 2)) (by first | §fw _ (by decide) (by decide) | rfl)) (A6 (AD (@Ed _ _ _))) (AT 0)) (A6 (A7 3 nd (A4 (AK 0) (A0 3) (BC hu (A0 2) (A0 4))))))) (A6 (AD (A0 3))))),?_⟩;rw[show start ["own","holes","least","total","hole"] [.int own,.ref hl,.ref d]=[some (.int own),some (.ref hl),some (.ref d),none,none] from rfl];clear hu hu0 nd hr;push_cast [and_true];£⟨as,h1,h2,h3⟩:=hH;¶⟨⟨_,SqL.of h1⟩,dg (xs:=as.map V.ref) (λi σ H'=>∃(c:Int) (v4:Option V),σ=[some (.int own),some (.ref hl),some (.ref d),some (.int c),v4]∧H=H'∧cost g c (hs.drop i)=cost g own hs) ⟨own,none,rfl,rfl,rfl⟩ (λi σ H' _ h=>by £⟨_,_,_,rfl,_⟩:=h;§SqL.of h1) ?_ ?_⟩
 ·rintro i y σ H' hy ⟨c,v4,rfl,rfl,hc⟩;rw[List.getElem?_map] at hy;£⟨a,ha,rfl⟩:=Option.map_eq_some_iff.mp hy;¤hil:i < hs.length:=by rw[←h2];§(List.getElem?_eq_some_iff.mp ha).1
  ¤hk:hs[i]?=some hs[i]:=List.getElem?_eq_getElem hil;£⟨a',ha',hA⟩:=h3 i _ hk;£rfl:a'=a:=Option.some.inj (ha'.symm.trans ha);rw[List.drop_eq_getElem_cons hil] at hc;push_cast [and_true];¶⟨_,hT.get hA,?_⟩;cases e:g hs[i] with
  | none=>
   rw[i6 e] at hc;rw[←hc] at q;§q
  | some v=>
   rw[gu e] at hc;¤hG:=hT.val hA e;rw[if_neg (by simp)];§⟨_,hG,hc⟩
 ·rintro σ H' ⟨c,v4,rfl,rfl,hc⟩;rw[List.length_map,h2,List.drop_length] at hc;¤hc:some c=cost g own hs:=hc;push_cast [and_true];rw[←hc] at q;§q
noncomputable abbrev ji:Stmt:=top 12
theorem Cq:az ["place","fitting","least","settled","name","kind","own","holes","price"] ["place","fitting","least"] (ah ji):=⟨rfl,rfl,rfl,by decide+kernel,rfl,by decide+kernel,by decide+kernel⟩
theorem Hu (G:Gs w K mg) (h_price_there:Has P w K mg base k "price_there" ["own","holes","least"] jm) (D:Def K mg "settle_part" ji ["place","fitting","least"]):Has P w K mg base (k+1) "settle_part" ["place","fitting","least"] pb:=by
 ¶D.has Cq (λvs H Q E h=>?_) (λf cdv A outer s H vs Q E hr h=>?_)
 ·£⟨_,_,_,_,_,_,_,rfl,_,_,_,_,_,_,_,_⟩:=h;rfl
 ¤nd:=Cq.nd;¤hu:=b9 hr;¤hu0:=Nat.lt_of_succ_lt hu;£⟨p,fl,d,as,fs,g,n,rfl,hF,hFs,hT,hn,ho,hpos,hnew,q⟩:=h;¶⟨_,(A5 (A7 3 nd (BB 0)) (A6 (C4 (@Dz _ _ _ _ (BX (A0 3))) (A5 (A7 3 nd (BB 0)) (A6 (AY (BD (A0 1)) (BS (AW (AJ 4 nd (by first | §Or.inl rfl | §Or.inr rfl)) (AW (AJ 5 nd (by first | §Or.inl rfl | §Or.inr rfl)) (AW (AJ 6 nd (by first | §Or.inl rfl | §Or.inr rfl)) (AW (AJ 7 nd (by first | §Or.inl rfl | §Or.inr rfl)) (BO 0)))))) (A5 (A7 8 nd (AG h_price_there hr (A1 (A0 6) (A1 (A0 7) (A1 (A0 2) (A3 0)))))) (A6 (AE (BA (BK (BT (@zf _ _ _ _ _ (A0 8)) (by first | §fw _ (by decide) (by decide) | rfl)) (BM (BA (BY (BT (C6 hu (AI (A1 (A0 0) (A1 (A0 5) (A3 0)))) (A0 2)) (by first | §fw _ (by decide) (by decide) | rfl)) (C3 (AB (@ni _) (A0 8) (BC hu (A0 2) (AI (A1 (A0 0) (A1 (A0 5) (A3 0))))) (AA 0)))))))) (A5 (@G2 _ _ _ _ _ _ _ _ _ hu (A0 2) (AI (A1 (A0 0) (A1 (A0 5) (A3 0)))) (A0 8) rfl) (A6 (A7 3 nd (BB 0)))) (AT 0)))))))))),?_⟩;rw[show start ["place","fitting","least","settled","name","kind","own","holes","price"] [.int (p:Int),.ref fl,.ref d]=[some (.int (p:Int)),some (.ref fl),some (.ref d),none,none,none,none,none,none] from rfl];clear hu hu0 nd hr;push_cast [and_true];¤sz:=sizeLine_eq;¤hal:=hFs.1;¤own:∀f∈fs.map (fm p),1≤f.own:=λf hf=>by
  £⟨f',hf',rfl⟩:=List.mem_map.mp hf;§ho f' hf'
 £⟨μ,Ok,ok0,okpos,okstep⟩:=ends (F:=fs.map (fm p)) hpos own hT.bound;¤cl:∀g',cnt (fs.map (fm p)) g'≤fs.length:=λg'=>by have:=Dm (fs.map (fm p)) g';rw[List.length_map] at this;§this
 ¤keep:∀{H':Hp},aq d H H'→H' fl=some (.lst (as.map V.ref))∧dj H' (λ_=>False) as fs:=λs'=>⟨(Kx.tb (no:=λ_=>False) hT s').l id hF,hFs.kx (Kx.tb hT s')⟩;£⟨P1,eP1⟩:∃P1:L2.St→Hp→Prop,∀σ H',P1 σ H'↔∃(g':Ky→Option Int) (b:Bool) (v4 v5 v6 v7 v8:Option V),σ=[some (.int (p:Int)),some (.ref fl),some (.ref d),some (.bl b),v4,v5,v6,v7,v8]∧aq d H H'∧dc H' d g' (n+cnt (fs.map (fm p)) g')∧SetI p fs g Ok g'∧(b=true→jh (fs.map (fm p)) g'):=⟨_,λ_ _=>Iff.rfl⟩;¶kj P1 (λσ H'=>2*μ (gOf H' d)+blAt σ) ((eP1 _ _).mpr ⟨g,false,none,none,none,none,none,rfl,aq.refl _ _,hT.mono (Nat.le_add_right _ _),⟨ok0,λ_ _=>rfl,λk v hk hv=>by rw[hnew k hk] at hv;cases hv⟩,λe=>nomatch e⟩) ?_ ?_
 ·intro σ H1 hh;¶ob7 ((eP1 _ _).mp hh) λg1 b v4 v5 v6 v7 v8 hh=>?_;¤s1:=hh.2.1;¤T1:=hh.2.2.1;¤I1:=hh.2.2.2.1;¤st1:=hh.2.2.2.2;£rfl:=hh.1;clear hh;push_cast [and_true];cases b with
  | true=>
   rw[if_neg (by simp)];§q H1 g1 s1 (T1.mono (by have:=cl g1;¡)) (st1 rfl) I1.far I1.due (okpos g1 I1.ok)
  | false=>
   rw[if_pos (by simp)];£⟨f1,F1⟩:=keep s1;¤e1:=zo T1;£⟨Pv,ePv⟩:∃Pv:Nat→L2.St→Hp→Prop,∀i σ H',Pv i σ H'↔∃(g':Ky→Option Int) (b:Bool) (v4 v5 v6 v7 v8:Option V),σ=[some (.int (p:Int)),some (.ref fl),some (.ref d),some (.bl b),v4,v5,v6,v7,v8]∧aq d H H'∧dc H' d g' (n+cnt (fs.map (fm p)) g')∧SetI p fs g Ok g'∧(b=true→g'=g1∧∀(j:Nat) (f:Pc.Fr),j < i→fs[j]?=some f→Mm p g1 f)∧(b=false→μ g' < μ g1):=⟨_,λ_ _ _=>Iff.rfl⟩;¶⟨⟨_,SqL.of f1⟩,dg (xs:=as.map V.ref) Pv ((ePv _ _ _).mpr ⟨g1,true,v4,v5,v6,v7,v8,rfl,s1,T1,I1,λ_=>⟨rfl,λj f h=>absurd h (Nat.not_lt_zero _)⟩,λe=>nomatch e⟩) (λi σ H' _ h=>by £⟨_,_,_,_,_,_,_,_,s,_⟩:=(ePv _ _ _).mp h;§SqL.of (keep s).1) ?_ ?_⟩
   ·¿i y σ H2 hy hh;¶ob7 ((ePv _ _ _).mp hh) λg2 b v4 v5 v6 v7 v8 hh=>?_;¤s2:=hh.2.1;¤T2:=hh.2.2.1;¤I2:=hh.2.2.2.1;¤bt2:=hh.2.2.2.2.1;¤bf2:=hh.2.2.2.2.2;£rfl:=hh.1;clear hh;rw[List.getElem?_map] at hy;£⟨a,ha,rfl⟩:=Option.map_eq_some_iff.mp hy;¤hil:i < fs.length:=by rw[←hal];§(List.getElem?_eq_some_iff.mp ha).1
    ¤hfi:fs[i]?=some fs[i]:=List.getElem?_eq_getElem hil;£⟨f2,F2⟩:=keep s2;£⟨a',ha',hl,_,h3,h4⟩:=F2.2 i _ hfi;£rfl:a'=a:=Option.some.inj (ha'.symm.trans ha);generalize fs[i]=f at hfi h3 h4;¤hfm:=List.mem_of_getElem? hfi;¶Ck h3 rfl ?_;push_cast [and_true];¶Pd h4 T2 ?_;¤no:∀H' w4 w5 w6 w7 w8,ak H2 H'→Mm p g2 f→Pv (i+1) [some (.int (p:Int)),some (.ref fl),some (.ref d),some (.bl b),w4,w5,w6,w7,w8] H':=λH' w4 w5 w6 w7 w8 s' so=>(ePv _ _ _).mpr ⟨g2,b,w4,w5,w6,w7,w8,rfl,s2.trans (aq.of s'),T2.same s',I2,λe=>⟨(bt2 e).1,λj f' hj hf'=>by
     £⟨e1',h⟩:=bt2 e;¦c:j < i
     ·§h j f' c hf'
     ·£rfl:j=i:=by ¡
      £rfl:f=f':=Option.some.inj (hfi.symm.trans hf');rw[←e1'];§so⟩,bf2⟩
    ¤yes:∀(H':Hp) (b':Addr) (c:Int) w4 w5 w6 w7 w8,ak H2 H'→H' b'=some (kyT (p,f.kind))→cost g2 f.own f.hs=some c→Imp g2 (p,f.kind) c→∃H'',vw H' d (.ref b') (.int c) H''∧Pv (i+1) [some (.int (p:Int)),some (.ref fl),some (.ref d),some (.bl false),w4,w5,w6,w7,w8] H'':=λH' b' c w4 w5 w6 w7 w8 s' hb hc im=>by
     £⟨o,hput,htb⟩:=(T2.same s').put (v:=c) hb (by have:=cl g2;¡);£⟨ok',lt⟩:=okstep g2 (fm p f) c I2.ok (List.mem_map.mpr ⟨f,hfm,rfl⟩) hc im;¶⟨upd H' d o,hput,(ePv _ _ _).mpr ⟨gb g2 (p,f.kind) c,false,w4,w5,w6,w7,w8,rfl,(s2.trans (aq.of s')).trans (aq.tb o),htb.mono (cnt_up hfm),I2.put hfm hc im ok',(λe=>nomatch e),λ_=>?_⟩⟩;¤lt:μ (gb g2 (p,f.kind) c) < μ g2:=lt;cases b with
     | true=>
      £⟨rfl,_⟩:=bt2 rfl;§lt
     | false=>
      have:=bf2 rfl;¡
    cases e:cost g2 f.own f.hs with
    | none=>
     push_cast [vt];rw[if_neg (by simp)];§no H2 _ _ _ _ _ (ak.refl _) (λc hc=>by rw[e] at hc;cases hc)
    | some c=>
     push_cast [vt];rw[if_pos (by simp)];¶⟨by show (2:Nat)≤sizeLine;decide,λp1 hp1=>⟨_,(T2.same (aa hp1 _)).get (k:=(p,f.kind)) ae,?_⟩⟩;cases e2:g2 (p,f.kind) with
     | none=>
      rw[if_pos (by simp)];§⟨by show (2:Nat)≤sizeLine;decide,λp2 hp2=>yes _ p2 c _ _ _ _ _ ((aa hp1 _).trans (aa hp2 _)) ae e (.inl e2)⟩
     | some v=>
      rw[if_neg (by simp)];¶⟨by show (2:Nat)≤sizeLine;decide,λp2 hp2=>⟨_,(T2.same ((aa hp1 _).trans (aa hp2 _))).val (k:=(p,f.kind)) ae e2,bu (λlt=>⟨by show (2:Nat)≤sizeLine;decide,λp3 hp3=>yes _ p3 c _ _ _ _ _ ((aa hp1 _).trans ((aa hp2 _).trans (aa hp3 _))) ae e (.inr ⟨v,e2,lt⟩)⟩) λnlt=>no _ _ _ _ _ _ ((aa hp1 _).trans (aa hp2 _)) λc' hc'=>⟨v,e2,?_⟩⟩⟩;rw[e] at hc';have:=Option.some.inj hc';¡
   ·intro σ H2 hh;¶ob7 ((ePv _ _ _).mp hh) λg2 b v4 v5 v6 v7 v8 hh=>?_;¤s2:=hh.2.1;¤T2:=hh.2.2.1;¤I2:=hh.2.2.2.1;¤bt2:=hh.2.2.2.2.1;¤bf2:=hh.2.2.2.2.2;£rfl:=hh.1;clear hh;¶⟨(eP1 _ _).mpr ⟨g2,b,v4,v5,v6,v7,v8,rfl,s2,T2,I2,λe=>?_⟩,?_⟩
    ·£⟨rfl,h⟩:=bt2 e;§Iv λj f hf=>h j f (by rw[List.length_map,hal];§(List.getElem?_eq_some_iff.mp hf).1) hf
    ·rw[e1,zo T2];cases b with
     | true=>
      £⟨rfl,_⟩:=bt2 rfl;show 2*μ g2+0 < 2*μ g2+1
      ¡
     | false=>
      have:=bf2 rfl;show 2*μ g2+1 < 2*μ g1+1
      ¡
 ·intro σ H1 Q1 Q2 h c;simp only[tNot,j6,tB,ja] at c ⊢;£⟨v,hv,cc,e,hq⟩:=c;§⟨v,hv,cc,e,h _ _ hq⟩
noncomputable abbrev uu:Stmt:=top 13
theorem Mf:az ["kind","price","fitting","least"] ["kind","price","fitting","least"] (ah uu):=⟨rfl,rfl,rfl,by decide+kernel,rfl,by decide+kernel,by decide+kernel⟩
theorem hasWith (G:Gs w K mg) (h_price_there:Has P w K mg base k "price_there" ["own","holes","least"] jm) (D:Def K mg "rules_with_price" uu ["kind","price","fitting","least"]):Has P w K mg base (k+1) "rules_with_price" ["kind","price","fitting","least"] zj:=by
 ¶D.has Mf (λvs H Q E h=>?_) (λf cdv A outer s H vs Q E hr h=>?_)
 ·£⟨_,_,_,_,_,_,_,_,rfl,_,_,_,_,_⟩:=h;rfl
 ¤nd:=Mf.nd;¤hu:=b9 hr;¤hu0:=Nat.lt_of_succ_lt hu;£⟨k,v,fl,d,as,fs,g,n,rfl,hF,hFs,hn,hT,q⟩:=h;¶⟨_,(A6 (AD (BU (BL ["name","other","own","holes"] ["kind","least","price"] [0,3,1] (And.intro rfl (And.intro rfl (And.intro rfl trivial))) (And.intro (And.intro rfl (And.intro rfl rfl)) (And.intro (And.intro rfl (And.intro rfl rfl)) (And.intro (And.intro rfl (And.intro rfl rfl)) trivial)))) (BD (A0 2)) (λ_ _ _=>(@O3 _ _ K rfl _ _ _ 4 rfl (AW (BE 0 (show List.Nodup (["name","other","own","holes","kind","least","price"]:List Str) by decide+kernel)) (AW (BE 1 (show List.Nodup (["name","other","own","holes","kind","least","price"]:List Str) by decide+kernel)) (AW (BE 2 (show List.Nodup (["name","other","own","holes","kind","least","price"]:List Str) by decide+kernel)) (AW (BE 3 (show List.Nodup (["name","other","own","holes","kind","least","price"]:List Str) by decide+kernel)) (BO 0))))) rfl rfl)) (λ_ _ _=>(@pif1 _ _ _ (BA (BK (AB (AR 0) (A0 1) (AO 4) (AA 0)) (BM (AB (AR 0) (AG h_price_there hr (A1 (A0 2) (A1 (A0 3) (A1 (AO 5) (A3 0))))) (AO 6) (AA 0))))))) (λ_ _ _=>(A0 0))))),?_⟩;rw[show start ["kind","price","fitting","least"] [.str k,.int v,.ref fl,.ref d]=[some (.str k),some (.int v),some (.ref fl),some (.ref d)] from rfl];clear hu hu0 nd hr;push_cast [jm];¤sz:=sizeLine_eq;¤hal:=hFs.1;¤one:∀(i:Nat) (t:Addr),as[i]?=some t→∃f hl,fs[i]?=some f∧H t=some (.tup [.str f.name,.str f.kind,.int f.own,.ref hl])∧mr H hl f.hs:=λi t ht=>by
  ¤hi:i < fs.length:=by rw[←hal];§(List.getElem?_eq_some_iff.mp ht).1
  £⟨a,h1,hl,_,h3,h4⟩:=hFs.2 i _ (List.getElem?_eq_getElem hi);£rfl:a=t:=Option.some.inj (h1.symm.trans ht);§⟨_,hl,List.getElem?_eq_getElem hi,h3,h4⟩
 ¶⟨⟨_,SqL.of hF⟩,λD hD=>Mh (as:=as) (λi ys _=>ys=(namesW (fs.take i) g k v).map V.str) (λ_ _ _ _ _ h=>h) rfl (SqL.of hF) (λi t ht=>?_) ¥ hD rfl (λi t x0 x1 x2 x3 ys H3 G' K' ht hx hP hl2 hS' hG hK'=>?_) λys H3 hP hl2 hS' hD2=>?_⟩
 ·£⟨f,hl,_,h,_⟩:=one i t ht;§⟨_,_,_,_,h⟩
 ·£⟨f,hl,hf,h,hh⟩:=one i t ht;rw[hx] at h;simp only[Option.some.injEq,HO.tup.injEq,List.cons.injEq,and_true] at h;£⟨rfl,rfl,rfl,rfl⟩:=h;¤et:namesW (fs.take (i+1)) g k v=namesW (fs.take i) g k v++if f.kind=k∧cost g f.own f.hs=some v then [f.name] else []:=by
   unfold namesW;rw[List.take_add_one,hf,List.filter_append,List.map_append];congr 1
   show (List.filter _ [f]).map _=_
   rw[List.filter_cons];¦c:f.kind=k∧cost g f.own f.hs=some v
   ·rw[if_pos c,if_pos (decide_eq_true c)];rfl
   ·rw[if_neg c,if_neg (by simpa using c)];rfl
  push_cast [jm];¶⟨rfl,bu (λe=>?_) λe=>?_⟩
  ·¶⟨_,hh.same hS',g,⟨n,hT.same hS'⟩,?_⟩;cases e2:cost g f.own f.hs with
   | none=>
    ¶⟨rfl,?_⟩;rw[if_neg (by ¿z;cases z)];¶hG _ (ak.refl _) ?_;rw[et,if_neg (λz=>by rw[e2] at z;cases z.2),List.append_nil];§hP
   | some c=>
    ¶⟨rfl,bu (λe3=>?_) λe3=>?_⟩
    ·¤e3:c=v:=V.int.inj e3;¶hK' _ _ (ak.refl _) ?_;rw[et,if_pos ⟨e,by rw[e2,e3]⟩,List.map_append,←hP];rfl
    ·¶hG _ (ak.refl _) ?_;rw[et,if_neg (λz=>e3 (by rw[e2] at z;rw[Option.some.inj z.2])),List.append_nil];§hP
  ·¶hG _ (ak.refl _) ?_;rw[et,if_neg (λz=>e z.1),List.append_nil];§hP
 ·rw[List.take_of_length_le ¥] at hP;§q D H3 hS' hD (by rw[←hP];§hD2)
noncomputable abbrev mh:Stmt:=top 14
theorem G1:az ["book","place","fitting","least","rows","kind","price"] ["book","place","fitting","least"] (ah mh):=⟨rfl,rfl,rfl,by decide+kernel,rfl,by decide+kernel,by decide+kernel⟩
theorem Kr (G:Gs w K mg) (h_rules_with_price:Has P w K mg base k "rules_with_price" ["kind","price","fitting","least"] zj) (D:Def K mg "rows_of_part" mh ["book","place","fitting","least"]):Has P w K mg base (k+1) "rows_of_part" ["book","place","fitting","least"] uh:=by
 ¶D.has G1 (λvs H Q E h=>?_) (λf cdv A outer s H vs Q E hr h=>?_)
 ·£⟨_,_,_,_,_,_,_,_,_,_,rfl,_,_,_,_,_,_,_⟩:=h;rfl
 ¤nd:=G1.nd;¤hu:=b9 hr;¤hu0:=Nat.lt_of_succ_lt hu;£⟨b,fl,d,p,kinds,rs,as,fs,g,n,rfl,hB,hkl,hF,hFs,hn,hT,q⟩:=h;¤m_sorted:=G.m_sorted;¶⟨_,(A5 (A7 4 nd (AC (A3 0))) (A5 (AY (BD (AN (@og _) m_sorted oz (A1 (A8 (AF 0) (A0 0) (A2 0)) (A3 0)))) (AJ 5 nd (by first | §Or.inl rfl | §Or.inr rfl)) (A6 (AE (BT (@pc_din _ _ _ _ _ hu (AI (A1 (A0 1) (A1 (A0 5) (A3 0)))) (A0 3)) (by first | §fw _ (by decide) (by decide) | rfl)) (A5 (A7 6 nd (BC hu (A0 3) (AI (A1 (A0 1) (A1 (A0 5) (A3 0)))))) (A6 (AS (AU PySem.F.plainAttrs_list PySem.F.slot_list_append PySem.F.type_list_append (AV 0) (A0 4) (A1 (AI (A1 (A0 1) (A1 (A0 5) (A1 (A0 6) (A1 (AG h_rules_with_price hr (A1 (A0 5) (A1 (A0 6) (A1 (A0 2) (A1 (A0 3) (A3 0)))))) (A3 0)))))) (A3 0)))))) (AT 0)))) (A6 (AD (A0 4))))),?_⟩;rw[show start ["book","place","fitting","least","rows","kind","price"] [.ref b,.int (p:Int),.ref fl,.ref d]=[some (.ref b),some (.int (p:Int)),some (.ref fl),some (.ref d),none,none,none] from rfl];clear hu hu0 nd hr;push_cast [and_true];¤sz:=sizeLine_eq;¶⟨Nat.zero_le _,λrl hrl=>?_⟩;¤S1:=aa hrl (.lst []);£⟨kt,rt,ra,hb,hkt,hrt,hRA⟩:=hB;¶au (S1 _ _ hb) rfl ⟨kt,rfl,kinds.map V.str,.inr (SqT.of (S1 _ _ hkt)),by rw[List.length_map];¡,_,L7,(λi j hi hj e=>Ij hi hj e),λkl is hpm hin hk=>?_⟩;rw[zq hpm hin];¤S2:=S1.trans (aa hk (.lst ((cv kinds).map V.str)));¤k2:upd (upd H rl (.lst [])) kl (.lst ((cv kinds).map V.str)) kl=some (.lst ((cv kinds).map V.str)):=ae;¤r2:upd (upd H rl (.lst [])) kl (.lst ((cv kinds).map V.str)) rl=some (.lst []):=aa hk _ _ _ ae;generalize upd (upd H rl (.lst [])) kl (.lst ((cv kinds).map V.str))=H2 at S2 k2 r2 ⊢;¤hks:(cv kinds).length≤60:=by rw[qh];§hkl
 ¤nrk:rl≠kl:=(ag (ae (H:=H) (a:=rl) (o:=.lst [])) hk);£⟨P1,eP1⟩:∃P1:Nat→L2.St→Hp→Prop,∀i σ H',P1 i σ H'↔∃(bs:List Addr) (v5 v6:Option V),σ=[some (.ref b),some (.int (p:Int)),some (.ref fl),some (.ref d),some (.ref rl),v5,v6]∧ak H H'∧H' kl=some (.lst ((cv kinds).map V.str))∧H' rl=some (.lst (bs.map V.ref))∧cb H' (λx=>H x≠none∨x=rl) bs (dn ((cv kinds).take i) fs p g):=⟨_,λ_ _ _=>Iff.rfl⟩;¶⟨⟨_,SqL.of k2⟩,dg (xs:=(cv kinds).map V.str) P1 ((eP1 _ _ _).mpr ⟨[],none,none,rfl,S2,k2,r2,cb.nil _ _⟩) (λi σ H' _ h=>by £⟨_,_,_,_,_,hk',_⟩:=(eP1 _ _ _).mp h;§SqL.of hk') ?_ ?_⟩
 ·¿i y σ H5 hy hh;¶ob3 ((eP1 _ _ _).mp hh) λbs v5 v6 hh=>?_;¤s5:=hh.2.1;¤k5:=hh.2.2.1;¤r5:=hh.2.2.2.1;¤R5:=hh.2.2.2.2;£rfl:=hh.1;clear hh;rw[List.getElem?_map] at hy;£⟨z,hz,rfl⟩:=Option.map_eq_some_iff.mp hy;¤et:dn ((cv kinds).take (i+1)) fs p g=dn ((cv kinds).take i) fs p g++((g (p,z)).map λv=>(⟨p,z,v,namesW fs g z v⟩:Rw)).toList:=by
   unfold dn;rw[List.take_add_one,hz,List.filterMap_append];congr 1
  ¤hbl:bs.length≤60:=by
   rw[R5.1];§Nat.le_trans (List.length_filterMap_le _ _) (by rw[List.length_take];¡)
  push_cast [and_true];¶⟨by show (2:Nat)≤sizeLine;decide,λp1 hp1=>⟨_,(hT.same (s5.trans (aa hp1 _))).get (k:=(p,z)) ae,?_⟩⟩;¤s6:=aa hp1 (.tup [V.int (p:Int),V.str z]);generalize upd H5 p1 (.tup [V.int (p:Int),V.str z])=H6 at s6 ⊢;¤S6:=s5.trans s6;cases e:g (p,z) with
  | none=>
   rw[if_neg (by simp)];¶(eP1 _ _ _).mpr ⟨bs,_,_,rfl,S6,s6 _ _ k5,s6 _ _ r5,?_⟩;rw[et,e];show cb H6 _ bs (_++[])
   rw[List.append_nil];§R5.kx (Kx.same s6)
  | some v=>
   rw[if_pos (by simp)];¶⟨by show (2:Nat)≤sizeLine;decide,λp2 hp2=>⟨_,(hT.same (S6.trans (aa hp2 _))).val (k:=(p,z)) ae e,?_⟩⟩;¤s7:=aa hp2 (.tup [V.int (p:Int),V.str z]);generalize upd H6 p2 (.tup [V.int (p:Int),V.str z])=H7 at s7 ⊢;¤S7:=S6.trans s7;¤s57:=s6.trans s7;¶⟨av (s57 _ _ r5),mkWith (S7 _ _ hF) (hFs.kx (Kx.same S7)) hn (hT.same S7) λl H8 s8 hl8 h8=>⟨by show (4:Nat)≤sizeLine;decide,λp3 hp3=>?_⟩⟩;¤s9:=aa hp3 (.tup [V.int (p:Int),V.str z,V.int v,V.ref l]);¤e9:upd H8 p3 (.tup [V.int (p:Int),V.str z,V.int v,V.ref l]) p3=some (.tup [V.int (p:Int),V.str z,V.int v,V.ref l]):=ae;generalize upd H8 p3 (.tup [V.int (p:Int),V.str z,V.int v,V.ref l])=H9 at s9 e9 ⊢;¤s59:=s57.trans (s8.trans s9);¤r9:=s59 _ _ r5;¶(bb (K:=K) r9 (by rw[List.length_map];¡) ((eP1 _ _ _).mpr ⟨bs++[p3],_,_,rfl,(s5.trans s59).upd hrl _,by rw[af nrk.symm];§s59 _ _ k5,by rw[ae,List.map_append];rfl,?_⟩)).2;rw[et,e];¶cb.kx (cb.append (R5.kx (Kx.same s59)) (cb.one ⟨l,?_,e9,s9 _ _ h8⟩)) ((Kx.upd r9).weak λx hx=>.inr hx);rintro (y | y)
   ·§y (S7.free hl8)
   ·§(ag (s57 _ _ r5) hl8) y.symm
 ·intro σ H5 hh;¶ob3 ((eP1 _ _ _).mp hh) λbs v5 v6 hh=>?_;¤s5:=hh.2.1;¤k5:=hh.2.2.1;¤r5:=hh.2.2.2.1;¤R5:=hh.2.2.2.2;£rfl:=hh.1;clear hh;push_cast [and_true];rw[List.length_map,List.take_length] at R5;§q rl bs H5 s5 hrl r5 (R5.weak λx hx=>.inl hx)
noncomputable abbrev mi:Stmt:=top 15
theorem Fy:az ["book","words","least","parts","place","fitting","rows","part"] ["book","words"] (ah mi):=⟨rfl,rfl,rfl,by decide+kernel,rfl,by decide+kernel,by decide+kernel⟩
theorem Kv (G:Gs w K mg) (h_fitting_rules:Has P w K mg base k "fitting_rules" ["book","words","place"] kq) (h_rows_of_part:Has P w K mg base k "rows_of_part" ["book","place","fitting","least"] uh) (h_settle_part:Has P w K mg base k "settle_part" ["place","fitting","least"] pb) (D:Def K mg "rows_with_all_rules" mi ["book","words"]):Has P w K mg base (k+1) "rows_with_all_rules" ["book","words"] uc:=by
 ¶D.has Fy (λvs H Q E h=>?_) (λf cdv A outer s H vs Q E hr h=>?_)
 ·£⟨_,_,_,_,_,rfl,_,_,_,_,_⟩:=h;rfl
 ¤nd:=Fy.nd;¤hu:=b9 hr;¤hu0:=Nat.lt_of_succ_lt hu;£⟨b,wt,kinds,rs,ws,rfl,hB,hW,bk,tw,q⟩:=h;¤m_len:=G.m_len;¤m_range:=G.m_range;¤m_reversed:=G.m_reversed;¶⟨_,(A5 (A7 2 nd (@Bj _ _)) (A5 (A7 3 nd (AC (A3 0))) (A5 (AY (@Iy _ _ _ _ _ _ _ _ rfl m_range (A1 (A4 (B0 0) (AN (AX 0) m_len cw (A1 (A0 1) (A3 0))) (A2 0)) (A1 (BZ (@jj _) (A2 0)) (A1 (BZ (@jj _) (A2 0)) (A3 0)))) rfl rfl) (AJ 4 nd (by first | §Or.inl rfl | §Or.inr rfl)) (A5 (A7 5 nd (AG h_fitting_rules hr (A1 (A0 0) (A1 (A0 1) (A1 (A0 4) (A3 0)))))) (A5 (AS (AG h_settle_part hr (A1 (A0 4) (A1 (A0 5) (A1 (A0 2) (A3 0)))))) (A6 (AS (AU PySem.F.plainAttrs_list PySem.F.slot_list_append PySem.F.type_list_append (AV 0) (A0 3) (A1 (AG h_rows_of_part hr (A1 (A0 0) (A1 (A0 4) (A1 (A0 5) (A1 (A0 2) (A3 0)))))) (A3 0)))))))) (A5 (A7 6 nd (AC (A3 0))) (A5 (AY (@pi_rev _ _ _ _ _ _ rfl m_reversed (A1 (A0 3) (A3 0)) rfl) (AJ 7 nd (by first | §Or.inl rfl | §Or.inr rfl)) (A6 (AS (AU PySem.F.plainAttrs_list PySem.F.slot_list_extend PySem.F.type_list_extend (@yd _) (A0 6) (A1 (A0 7) (A3 0)))))) (A6 (AD (A0 6)))))))),?_⟩;rw[show start ["book","words","least","parts","place","fitting","rows","part"] [.ref b,.ref wt]=[some (.ref b),some (.ref wt),none,none,none,none,none,none] from rfl];clear hu hu0 nd hr;push_cast [and_true];¤sz:=sizeLine_eq;¤wl:=tw.len;¤rl:=bk.len;push_cast [Lp,iDn];¿d hd;¶⟨Nat.zero_le _,λpl hpl=>?_⟩;¤S1:=aa hd (.dT []);¤S2:=S1.trans (aa hpl (.lst []));¤npd:pl≠d:=(ag (ae (H:=H) (a:=d) (o:=.dT [])) hpl).symm;¤d2:dc (upd (upd H d (.dT [])) pl (.lst [])) d (λ_=>none) 0:=(dc.nil (H:=H) (d:=d)).same (aa hpl _);¤p2:upd (upd H d (.dT [])) pl (.lst []) pl=some (.lst []):=ae;¤fpl:H pl=none:=S1.free hpl;generalize upd (upd H d (.dT [])) pl (.lst [])=H2 at S2 d2 p2 ⊢;¶⟨ws,.inr (SqT.of (S2 _ _ hW)),ws.length,rfl,¥,?_⟩;¤fl100:∀i,(bp kinds rs ws i).length≤100:=λi=>Nat.le_trans (Lc kinds rs ws i) rl;£⟨P1,eP1⟩:∃P1:Nat→L2.St→Hp→Prop,∀i σ H',P1 i σ H'↔∃(g:Ky→Option Int) (pa:List Addr) (v4 v5:Option V),σ=[some (.ref b),some (.ref wt),some (.ref d),some (.ref pl),v4,v5,none,none]∧ak H H'∧dc H' d g ((ws.length - i)*100)∧xr kinds rs ws i g∧H' pl=some (.lst (pa.map V.ref))∧gp H H' pl pa kinds rs ws i g:=⟨_,λ_ _ _=>Iff.rfl⟩;¶Qj (n:=ws.length) P1 ((eP1 _ _ _).mpr ⟨λ_=>none,[],none,none,rfl,S2,d2.mono (Nat.zero_le _),xr.start kinds rs ws,p2,⟨by simp,λq h1 h2=>by ¡⟩⟩) ?_ ?_
 ·¿i σ H5 hi hh;¶ob4 ((eP1 _ _ _).mp hh) λg pa v4 v5 hh=>?_;¤s5:=hh.2.1;¤T5:=hh.2.2.1;¤O5:=hh.2.2.2.1;¤p5:=hh.2.2.2.2.1;¤P5:=hh.2.2.2.2.2;£rfl:=hh.1;clear hh;¤fi:=fl100 i;push_cast [and_true];¶Ja (hB.same s5) (s5 _ _ hW) bk tw hi λfl as H6 s6 hfl f6 F6=>?_;¶M5 f6 (F6.weak (λ_ h=>h.elim)) (T5.same s6) ¥ (λf hf=>(kz bk hf).1) O5.pos (λk hk=>?_) λH7 g' s7 T7 st7 far7 due7 pos7=>?_
  ·cases e:g k with
   | none=>rfl
   | some v=>
    have:=(O5.at' k v e).1;¡
  ¤S7:ak H H7:=λc o h=>s7 c o (ag h hd) ((s5.trans s6) c o h);¤x7:∀{no:Addr→Prop},Kx no H6 H7:=Kx.tb (T5.same s6) s7;¤p7:=x7.l (no:=λ_=>False) id (s6 _ _ p5);¤f7:=x7.l (no:=λ_=>False) id f6;¶⟨av p7,N4 (hB.same S7) bk.kl f7 ((F6.weak (no':=λ_=>False) (λ_ h=>h.elim)).kx x7) ¥ T7 λl bs H8 s8 hl8 h8 R8=>?_⟩;¤p8:=s8 _ _ p7;¤pal:=P5.1;¶(bb (K:=K) p8 (by rw[List.length_map];¡) ((eP1 _ _ _).mpr ⟨g',pa++[l],_,_,rfl,(S7.trans s8).upd fpl _,((T7.same s8).at λo e=>by rw[af npd.symm];§e).mono ¥,xr.step bk O5 hi st7 far7 due7 pos7,by rw[ae,List.map_append];rfl,?_⟩)).2;¶gp.kx (gp.snoc bk (P5.kx ((Kx.same s6).trans (x7.trans (Kx.same s8)))) hi far7 ?_ h8 (R8.weak λx hx=>?_)) ((Kx.upd p8).weak λx hx=>.inr hx)
  ·rintro (y | y)
   ·§y (S7.free hl8)
   ·§(ag p7 hl8) y.symm
  ·rcases hx with y | y
   ·¿z;§y (S7.free z)
   ·¿z;rw[y,p7] at z;cases z
 ·intro σ H5 hh;¶ob4 ((eP1 _ _ _).mp hh) λg pa v4 v5 hh=>?_;¤s5:=hh.2.1;¤T5:=hh.2.2.1;¤O5:=hh.2.2.2.1;¤p5:=hh.2.2.2.2.1;¤P5:=hh.2.2.2.2.2;£rfl:=hh.1;clear hh;¤pal:=P5.1;push_cast [and_true];¶⟨Nat.zero_le _,λrl2 hrl=>⟨_,SqL.of (aa hrl _ _ _ p5),?_⟩⟩;¶M6 (xs:=pa.map V.ref) (λi σ H'=>∃(bs:List Addr) (v7:Option V),σ=[some (.ref b),some (.ref wt),some (.ref d),some (.ref pl),v4,v5,some (.ref rl2),v7]∧ak H5 H'∧H' rl2=some (.lst (bs.map V.ref))∧cb H5 (λx=>H x≠none) bs (jl kinds rs ws g i)) ⟨[],none,rfl,aa hrl _,ae,cb.nil _ _⟩ (λi σ H' _ h=>by £⟨_,_,_,s,_⟩:=h;§SqL.of (s _ _ p5)) ?_ ?_
  ·rintro i y σ H6 hi hy ⟨bs,v7,rfl,s6,r6,R6⟩;rw[List.length_map] at hi hy;¤hiw:i < ws.length:=by ¡
   £⟨a,bs2,g1,g2,g3,g4⟩:=P5.2 i (Nat.zero_le _) hiw;rw[List.getElem?_map,pal,show ws.length - 0 - 1 - i=ws.length - 1 - i by ¡,g1] at hy;¤hy:V.ref a=y:=Option.some.inj hy;subst hy;push_cast [and_true];¤bl:bs.length≤60*i:=by rw[R6.1];§m4 kinds rs ws g bk.kl i
   ¤bl2:bs2.length≤60:=by rw[g4.1];§Nat.le_trans (xf _ _ _ _) (by rw[qh];§bk.kl)
   ¶⟨av r6,rl2,a,bs.map V.ref,bs2.map V.ref,rfl,rfl,r6,s6 _ _ g3,by rw[List.length_map,List.length_map];¡,?_⟩;¶⟨s6.upd hrl _,bs++bs2,by rw[ae,List.map_append],?_⟩;rw[iw];§R6.append (g4.weak λx hx=>.inl hx)
  ·rintro σ H6 ⟨bs,v7,rfl,s6,r6,R6⟩;push_cast [and_true];rw[List.length_map,pal,Nat.sub_zero] at R6;§q rl2 bs H6 g (s5.trans s6) (s5.free hrl) r6 O5.tbl (R6.kx (Kx.same s6))
noncomputable abbrev m9:Stmt:=top 16
theorem Gh:az ["book","words","table","rows","told","row"] ["book","words","table"] (ah m9):=⟨rfl,rfl,rfl,by decide+kernel,rfl,by decide+kernel,by decide+kernel⟩
theorem Mb (G:Gs w K mg) (h_rows_with_all_rules:Has P w K mg base k "rows_with_all_rules" ["book","words"] uc) (D:Def K mg "is_table" m9 ["book","words","table"]):Has P w K mg base (k+1) "is_table" ["book","words","table"] sj:=by
 ¶D.has Gh (λvs H Q E h=>?_) (λf cdv A outer s H vs Q E hr h=>?_)
 ·£⟨_,_,_,_,_,_,_,_,rfl,_,_,_,_,_,_,_,_⟩:=h;rfl
 ¤nd:=Gh.nd;¤hu:=b9 hr;¤hu0:=Nat.lt_of_succ_lt hu;£⟨b,wt,tl,kinds,rs,ws,ts,tab,rfl,hB,hW,bk,tw,hL,hTr,hl,q⟩:=h;¤m_len:=G.m_len;¤m_zip:=G.m_zip;¶⟨_,(A5 (A7 3 nd (AG h_rows_with_all_rules hr (A1 (A0 0) (A1 (A0 1) (A3 0))))) (A5 (AE (AB (@Cs _) (AN (AX 0) m_len cw (A1 (A0 2) (A3 0))) (AN (AX 0) m_len cw (A1 (A0 3) (A3 0))) (AA 0)) (A6 (AD (BB 0))) (AT 0)) (A5 (AY (@pi_zip _ false _ _ _ _ _ _ rfl m_zip (Or.inr (Exists.intro _ (Exists.intro _ (Exists.intro _ rfl)))) (A1 (A0 2) (A1 (A0 3) (A3 0))) rfl rfl) (BS (AW (AJ 4 nd (by first | §Or.inl rfl | §Or.inr rfl)) (AW (AJ 5 nd (by first | §Or.inl rfl | §Or.inr rfl)) (BO 0)))) (A6 (AE (BA (BY (AB (@op_neK _ hu0) (B6 (@ik _) (A0 4) (B7 0) (B9 (A2 0))) (B6 (@ik _) (A0 5) (B7 0) (B9 (A2 0))) (AA 0)) (C3 (BH (@je _) (A8 (AF 0) (A0 4) (A2 0)) (A8 (AF 0) (A0 5) (A2 0)))))) (A6 (AD (BB 0))) (AT 0)))) (A6 (AD (BB 0)))))),?_⟩;rw[show start ["book","words","table","rows","told","row"] [.ref b,.ref wt,.ref tl]=[some (.ref b),some (.ref wt),some (.ref tl),none,none,none] from rfl];clear hu hu0 nd hr;push_cast [and_true];¤sz:=sizeLine_eq;¤htl:=hTr.1;¶Ou hB hW bk tw λl as H1 g s1 hl1 h1 T R=>⟨ts.map V.ref,.inl (SqL.of (s1 _ _ hL)),as.map V.ref,.inl (SqL.of h1),rfl,?_⟩;¤rl:=Ex (g:=g) bk tw;¤hal:=R.1;rw[List.length_map,List.length_map];¦c:ts.length=as.length
 ·rw[if_neg (by simp[c])];push_cast [iZip];¶⟨⟨ts.map V.ref,SqL.of (s1 _ _ hL)⟩,⟨_,SqL.of h1⟩,?_⟩;£⟨P1,eP1⟩:∃P1:Nat→L2.St→Hp→Prop,∀i σ H',P1 i σ H'↔∃v4 v5:Option V,σ=[some (.ref b),some (.ref wt),some (.ref tl),some (.ref l),v4,v5]∧ak H1 H'∧∀(j:Nat) (t:Tr) (r:Rw),j < i→tab[j]?=some t→(rowsOf kinds rs ws g)[j]?=some r→trOk t r:=⟨_,λ_ _ _=>Iff.rfl⟩;¶Kk (c:=false) (xs:=ts.map V.ref) (ys:=as.map V.ref) P1 ((eP1 _ _ _).mpr ⟨none,none,rfl,ak.refl _,λj t r h=>absurd h (Nat.not_lt_zero _)⟩) (by rw[List.length_map,List.length_map,c]) (λi σ H' _ h=>by £⟨_,_,_,s,_⟩:=(eP1 _ _ _).mp h;§⟨SqL.of ((s1.trans s) _ _ hL),SqL.of (s _ _ h1)⟩) ?_ ?_
  ·¿i x y σ H5 p hx hy hh hp;¶ob2 ((eP1 _ _ _).mp hh) λv4 v5 hh=>?_;¤s5:=hh.2.1;¤ok5:=hh.2.2;£rfl:=hh.1;clear hh;rw[List.getElem?_map] at hx hy;£⟨ta,hta,rfl⟩:=Option.map_eq_some_iff.mp hx;£⟨ra,hra,rfl⟩:=Option.map_eq_some_iff.mp hy;£⟨r,nl,hr,k1,k2⟩:=R.get hra;¤hti:i < tab.length:=by rw[←htl];§(List.getElem?_eq_some_iff.mp hta).1
   £⟨ta',hta',k3⟩:=hTr.2 i _ (List.getElem?_eq_getElem hti);£rfl:ta'=ta:=Option.some.inj (hta'.symm.trans hta);¤htt:tab[i]?=some tab[i]:=List.getElem?_eq_getElem hti;generalize tab[i]=t at htt k3;¤s6:=s5.trans (aa hp (.tup [V.ref ta',V.ref ra]));¤S6:=s1.trans s6;¤e6:upd H5 p (.tup [V.ref ta',V.ref ra]) p=some (.tup [V.ref ta',V.ref ra]):=ae;generalize upd H5 p (.tup [V.ref ta',V.ref ra])=H6 at s6 S6 e6 ⊢;¶Bn e6 rfl ?_;push_cast [and_true];¶⟨ta',_,rfl,S6 _ _ k3,λp1 H7 s7 h7=>⟨ra,_,rfl,(s6.trans s7) _ _ k1,λp2 H8 s8 h8=>?_⟩⟩;rw[cut3] at h7 h8;¤s68:=s7.trans s8;¶⟨p1,p2,[Sum.inl t.place,Sum.inr t.kind,Sum.inl t.price],[Sum.inl (r.place:Int),Sum.inr r.kind,Sum.inl r.price],rfl,rfl,.inl ⟨SqT.of (s8 _ _ h7),SqT.of h8⟩,?_⟩;¦e:([Sum.inl t.place,Sum.inr t.kind,Sum.inl t.price]:List Key)=[Sum.inl (r.place:Int),Sum.inr r.kind,Sum.inl r.price]
   ·¶ifN (by simp[e]) ?_;¤ev:t.place=(r.place:Int)∧t.kind=r.kind∧t.price=r.price:=by simpa using e
    ¶au ((S6.trans s68) _ _ k3) rfl (au ((s6.trans s68) _ _ k1) rfl ⟨nl,r.names.map V.str,rfl,.inl (SqL.of ((s6.trans s68) _ _ k2)),rfl,List.all_eq_true.mpr (λx hx=>by £⟨z,_,rfl⟩:=List.mem_map.mp hx;rfl),?_⟩);¤ei:inV (.str t.name) (r.names.map V.str)=decide (t.name∈r.names):=o9 (kinds:=r.names) ⟨Sum.inr t.name,rfl⟩;¦m:t.name∈r.names
    ·¶ifN (by rw[ei];simp[m]) ?_;¶(eP1 _ _ _).mpr ⟨_,_,rfl,s6.trans s68,λj t' r' hj ht hr'=>?_⟩;¦c2:j < i
     ·§ok5 j t' r' c2 ht hr'
     ·£rfl:j=i:=by ¡
      £rfl:t=t':=Option.some.inj (htt.symm.trans ht);£rfl:r=r':=Option.some.inj (hr.symm.trans hr');§⟨ev.1,ev.2.1,ev.2.2,m⟩
    ·¶ifY (by rw[ei];simp[m]) ?_;§q H8 g false (S6.trans s68) T ⟨(λe=>nomatch e),λh=>absurd (h.2 i t r htt hr).2.2.2 m⟩
   ·¶ifY (by simp only[if_true];rw[decide_eq_false e];rfl) ?_;¶q H8 g false (S6.trans s68) T ⟨(λe=>nomatch e),λh=>absurd ?_ e⟩;£⟨a1,a2,a3,_⟩:=h.2 i t r htt hr;rw[a1,a2,a3]
  ·intro σ H5 hh;¶ob2 ((eP1 _ _ _).mp hh) λv4 v5 hh=>?_;¤s5:=hh.2.1;¤ok5:=hh.2.2;£rfl:=hh.1;clear hh;push_cast [and_true];¶q H5 g true (s1.trans s5) T ⟨λ_=>⟨¥,λj t r h1 h2=>ok5 j t r ?_ h1 h2⟩,λ_=>rfl⟩;rw[List.length_map,htl];§(List.getElem?_eq_some_iff.mp h1).1
 ·rw[if_pos (by simp;¡)];§q H1 g false s1 T ⟨(λe=>nomatch e),λh=>absurd (h.1) ¥⟩
noncomputable abbrev vv:Stmt:=top 18
theorem Mo:az ["deck","cells","at"] ["deck"] (ah vv):=⟨rfl,rfl,rfl,by decide+kernel,rfl,by decide+kernel,by decide+kernel⟩
theorem hasNext (G:Gs w K mg) (D:Def K mg "_law_next" vv ["deck"]):Has P w K mg base (k+1) "_law_next" ["deck"] gn:=by
 ¶D.has Mo (λvs H Q E h=>?_) (λf cdv A outer s H vs Q E hr h=>?_)
 ·£⟨_,_,_,_,rfl,_,_,_⟩:=h;rfl
 ¤nd:=Mo.nd;¤hu:=b9 hr;¤hu0:=Nat.lt_of_succ_lt hu;£⟨d,b,ns,n,rfl,hD,hn,q⟩:=h;¤m_len:=G.m_len;¶⟨_,(A5 (A7 1 nd (A8 (AM 0) (A0 0) (A2 0))) (A5 (A7 2 nd (A8 (AM 0) (A0 0) (A2 0))) (A5 (C7 (A4 (AK 0) (A0 2) (A2 0)) (C8 (A0 0) (A2 0) (@set_list _))) (A5 (AE (AB (@ni _) (A0 2) (AN (AX 0) m_len cw (A1 (A0 1) (A3 0))) (AA 0)) (A6 (AD (A8 (AM 0) (A0 1) (A0 2)))) (AT 0)) (A5 (AE (AB (AR 0) (AN (AX 0) m_len cw (A1 (A0 1) (A3 0))) (A2 0) (AA 0)) (A6 (AD (A4 (AK 0) (A4 (@zc _) (A4 (@zc _) (A0 2) (A0 2)) (A2 0)) (A0 2)))) (AT 0)) (A6 (AD (A4 (AK 0) (A4 (AQ 0) (A8 (AM 0) (A0 1) (A4 (A9 0) (A0 2) (AN (AX 0) m_len cw (A1 (A0 1) (A3 0))))) (A2 0)) (A4 (@zc _) (A0 2) (A0 2)))))))))),?_⟩;rw[show start ["deck","cells","at"] [.ref d]=[some (.ref d),none,none] from rfl];clear hu hu0 nd hr;push_cast [rIxL,gSub,Mg,pj,CMul];¤nb:=hD.ne;£⟨h1,h2⟩:=hD;¶⟨_,SqL.of h1,.ref b,rfl,_,SqL.of h1,.int (n:Int),rfl,?_⟩;push_cast [and_true];¤h3:upd H d (.lst [.ref b,.int ((n:Int)+1)]) b=some (.lst (ns.map V.int)):=by rw[af nb];§h2
 ¤hS:aq d H (upd H d (.lst [.ref b,.int ((n:Int)+1)])):=λc o hc ho=>by rw[af hc];§ho
 ¤hD':upd H d (.lst [.ref b,.int ((n:Int)+1)]) d=some (.lst [.ref b,.int ((n+1:Nat):Int)]):=ae;¶⟨_,h1,1,rfl,ns.map V.int,.inl (SqL.of h3),bu (λc=>?_) λc=>⟨ns.map V.int,.inl (SqL.of h3),rfl,bu (λc2=>?_) λc2=>?_⟩⟩
 ·rw[List.length_map] at c;¤hlt:n < ns.length:=by ¡
  §⟨_,SqL.of h3,.int ns[n],bo (by rw[List.getElem?_map,List.getElem?_eq_getElem hlt];rfl),q _ _ hS hD'⟩
 ·§⟨.inl ⟨¥,¥⟩,.inr trivial,q _ _ hS hD'⟩
 ·rw[List.length_map] at c2;¤hpos:0 < ns.length:=by ¡
  ¤hlt:n % ns.length < ns.length:=Nat.mod_lt _ hpos;¶⟨ns.map V.int,.inl (SqL.of h3),by rw[List.length_map];¡,_,SqL.of h3,.int ns[n % ns.length],?_,by decide,by decide,.inl ⟨¥,¥⟩,q _ _ hS hD'⟩;rw[List.length_map,show (n:Int) % (ns.length:Int)=((n % ns.length:Nat):Int) from (Int.natCast_emod _ _).symm];§bo (by rw[List.getElem?_map,List.getElem?_eq_getElem hlt];rfl)
noncomputable abbrev vg:Stmt:=top 24
theorem Lw:az ["words","ends","stack","back","at","end"] ["words"] (ah vg):=⟨rfl,rfl,rfl,by decide+kernel,rfl,by decide+kernel,by decide+kernel⟩
theorem Ny (G:Gs w K mg) (D:Def K mg "_law_ends" vg ["words"]):Has P w K mg base (k+1) "_law_ends" ["words"] (ze K):=by
 ¶D.has Lw (λvs H Q E h=>?_) (λf cdv A outer s H vs Q E hr h=>?_)
 ·£⟨_,_,rfl,_,_,_,_,_⟩:=h;rfl
 ¤nd:=Lw.nd;¤hu:=b9 hr;¤hu0:=Nat.lt_of_succ_lt hu;£⟨t,ws,rfl,hT,hw,hTm,hl,q⟩:=h;¤m_len:=G.m_len;¤m_range:=G.m_range;¶⟨_,(A5 (A7 1 nd (A4 (@op_rep _) (AC (A1 (A2 0) (A3 0))) (AN (AX 0) m_len cw (A1 (A0 0) (A3 0))))) (A5 (A7 2 nd (AC (A3 0))) (A5 (AY (BP m_range (A1 (AN (AX 0) m_len cw (A1 (A0 0) (A3 0))) (A3 0))) (AJ 3 nd (by first | §Or.inl rfl | §Or.inr rfl)) (A5 (A7 4 nd (A4 (B0 0) (A4 (B0 0) (AN (AX 0) m_len cw (A1 (A0 0) (A3 0))) (A2 0)) (A0 3))) (A5 (A7 5 nd (A4 (AK 0) (A0 4) (A2 0))) (BI (AE (BH (BR 0) (A8 (AF 0) (A0 0) (A0 4)) (AC (BF (AH (AH (AH (BG 0))))))) (A6 (AS (C9 PySem.F.plainAttrs_list PySem.F.slot_list_pop PySem.F.type_list_pop (@za _) (A0 2)))) (AT 0)) (BI (AE (BH (BR 0) (A8 (AF 0) (A0 0) (A0 4)) (AC (BF (AH (AH (AH (AH (BG 0)))))))) (A6 (A7 5 nd (C9 PySem.F.plainAttrs_list PySem.F.slot_list_pop PySem.F.type_list_pop (@za _) (A0 2)))) (AT 0)) (A5 (AS (AU PySem.F.plainAttrs_list PySem.F.slot_list_append PySem.F.type_list_append (AV 0) (A0 2) (A1 (A0 5) (A3 0)))) (A6 (C7 (A0 5) (C8 (A0 1) (A0 4) (@set_list _)))))))))) (A6 (AD (A0 1)))))),?_⟩;rw[show start ["words","ends","stack","back","at","end"] [.ref t]=[some (.ref t),none,none,none,none,none] from rfl];clear hu hu0 nd hr;push_cast [and_true];¤sz:=sizeLine_eq;¶⟨by show (1:Nat)≤sizeLine;decide,λp0 hp0=>⟨ws,.inr ((aa hp0 _).tup hT),O2 ae ¥ ¥ λel hel=>⟨Nat.zero_le _,λsp hsp=>⟨ws,.inr ((((aa hp0 _).trans (aa hel _)).trans (aa hsp _)).tup hT),¥,¥,?_⟩⟩⟩⟩;rw[show ((ws.length:Nat):Int).toNat=ws.length by ¡] at hsp ⊢;¤S1:=aa hp0 (.lst [V.int 0]);¤fe:=S1.free hel;¤S2:=S1.trans (aa hel (.lst (List.replicate ws.length (V.int 0))));¤fs:=S2.free hsp;¤S3:=S2.trans (aa hsp (.lst []));¤nes:el≠sp:=ag ae hsp;¤e3:=aa hsp (.lst []) _ _ (ae (H:=upd H p0 (.lst [V.int 0])) (a:=el) (o:=.lst (List.replicate ws.length (V.int 0))));¤p3:upd (upd (upd H p0 (.lst [V.int 0])) el (.lst (List.replicate ws.length (V.int 0)))) sp (.lst []) sp=some (.lst []):=ae;generalize upd (upd (upd H p0 (.lst [V.int 0])) el (.lst (List.replicate ws.length (V.int 0)))) sp (.lst [])=H3 at S3 e3 p3 ⊢;£⟨P1,eP1⟩:∃P1:Nat→L2.St→Hp→Prop,∀j σ H',P1 j σ H'↔∃v3 v4 v5:Option V,σ=[some (.ref t),some (.ref el),some (.ref sp),v3,v4,v5]∧ak H H'∧H' sp=some (.lst (((uy ws (ws.length - j)).drop 1).reverse.map plV))∧H' el=some (.lst (List.replicate (ws.length - j) (V.int 0)++(List.range j).map λi=>plV (endAt ws (ws.length - j+i)))):=⟨_,λ_ _ _=>Iff.rfl⟩;¶fh (lo:=0) P1 ?_ ?_ ?_
 ·¶(eP1 _ _ _).mpr ⟨none,none,none,rfl,S3,?_,?_⟩
  ·rw[Nat.sub_zero,M7];§p3
  ·rw[e3];simp
 ·¿j σ H5 hj hh;¶ob3 ((eP1 _ _ _).mp hh) λv3 v4 v5 hh=>?_;¤s5:=hh.2.1;¤p5:=hh.2.2.1;¤e5:=hh.2.2.2;£rfl:=hh.1;clear hh;£⟨p,hp⟩:∃p,p+j+1=ws.length:=⟨ws.length - 1 - j,¥⟩;rw[show ws.length - j=p+1 by ¡] at p5 e5;¤ej:(λ_:Unit=>ws.length - (j+1))=λ_=>p:=by funext _;¡
  ¤hpl:p < ws.length:=by ¡
  ¤hx:ws[p]?=some ws[p]:=List.getElem?_eq_getElem hpl;¤hxw:=hw _ (List.getElem_mem hpl);¤hat:atI ws (p:Int)=some ws[p]:=bo hx;generalize ws[p]=x at hx hxw hat;£⟨tp,u,tu⟩:=Qu hTm hx;push_cast [and_true];¶⟨ws,.inr (s5.tup hT),?_⟩;rw[show ((ws.length:Int) - 1 - (0+(j:Int)))=(p:Int) by ¡];£⟨E',hT'⟩:=Hr ws (p:=p+1) ¥;rw[hT'] at p5 tp tu;¤p5:H5 sp=some (.lst (E'.reverse.map plV)):=p5;¤three:=Ap hxw;¤four:=zv hxw;¤ar2:=uw x;¤rp:∀(y:Nat) (L:List Nat),((y::L).reverse.map plV)=L.reverse.map plV++[plV y]:=λy L=>by rw[List.reverse_cons,List.map_append];rfl
  ¶fb (λσ' H6=>σ'=[some (.ref t),some (.ref el),some (.ref sp),some (.int (0+(j:Int))),some (.int (p:Int)),some (.int ((p:Int)+1))]∧ak H H6∧H6 el=H5 el∧H6 sp=some (.lst ((if arV x=2 then E'.drop 1 else E').reverse.map plV))) ?_ ?_
  ·push_cast [rIn];¶⟨t,ws,_,x,rfl,rfl,s5.tup hT,hat,by show (3:Nat)≤sizeLine;decide,λa ha=>⟨_,.inl (SqL.of ae),hxw.flat,rfl,bu (λc2=>?_) λc2=>?_⟩⟩
   ·¤a2:=three.mp c2;rw[a2] at tu;rw[if_pos a2];cases E' with
    | nil=>cases tu
    | cons e1 E2=>
     rw[rp] at p5;§Ac (aa ha _ _ _ p5) ⟨(s5.trans (aa ha _)).upd fs _,by rw[af nes,aa ha _ _ _ e5,e5],by rw[ae];rfl⟩
   ·rw[if_neg λe=>c2 (three.mpr e)];§⟨s5.trans (aa ha _),by rw[aa ha _ _ _ e5,e5],aa ha _ _ _ p5⟩
  rintro _ H6 ⟨rfl,s6,e6,p6⟩;¶fb (λσ' H7=>σ'=[some (.ref t),some (.ref el),some (.ref sp),some (.int (0+(j:Int))),some (.int (p:Int)),some (plV (endAt ws p))]∧ak H H7∧H7 el=H5 el∧H7 sp=some (.lst (u.reverse.map plV))) ?_ ?_
  ·push_cast [rIn];¶⟨t,ws,_,x,rfl,rfl,s6.tup hT,hat,by show (4:Nat)≤sizeLine;decide,λa ha=>⟨_,.inl (SqL.of ae),hxw.flat,rfl,bu (λc2=>?_) λc2=>?_⟩⟩
   ·¤a1:=four.mp c2;¤hE:(if arV x=2 then E'.drop 1 else E')=endAt ws p::u:=by
     ¦a2:arV x=2
     ·rw[if_pos a2];rw[a2] at tu;§tu
     ·rw[if_neg a2];rw[show arV x=1 by ¡] at tu;§tu
    rw[hE,rp] at p6;§Ac (aa ha _ _ _ p6) ⟨rfl,(s6.trans (aa ha _)).upd fs _,by rw[af nes,aa ha _ _ _ (e6.trans e5),e5],ae⟩
   ·¤a0:arV x=0:=by
     rcases Nat.eq_zero_or_pos (arV x) with h | h
     ·§h
     ·§absurd (four.mpr h) c2
    rw[a0] at tu p6;¤tu:(p+1)::E'=endAt ws p::u:=tu;£⟨y1,y2⟩:=List.cons.inj tu;rw[if_neg (by decide),y2] at p6;§⟨¥,s6.trans (aa ha _),by rw[aa ha _ _ _ (e6.trans e5),e5],aa ha _ _ _ p6⟩
  rintro _ H7 ⟨rfl,s7,e7,p7⟩;push_cast [gSub,Mg];¤tl:=Jz ws p;rw[tp,tu,List.length_cons,List.length_cons] at tl;¶bb p7 (by rw[List.length_map,List.length_reverse];¡) ⟨_,by rw[af nes];§e7.trans e5,p,Qf (by rw[List.length_append,List.length_replicate];¡),(eP1 _ _ _).mpr ⟨_,_,_,rfl,(s7.upd fs _).upd fe _,?_,?_⟩⟩
  ·rw[show ws.length - (j+1)=p from congrFun ej (),af nes.symm,ae,tp,tu];show _=some (HO.lst ((endAt ws p::u).reverse.map plV))
   rw[rp]
  ·rw[show ws.length - (j+1)=p from congrFun ej (),ae,Lv,List.range_succ_eq_map,List.map_cons,List.map_map];show some (HO.lst (_++plV (endAt ws p)::List.map (λi=>plV (endAt ws (p+1+i))) (List.range j)))=some (HO.lst (_++plV (endAt ws (p+0))::List.map ((λi=>plV (endAt ws (p+i))) ∘ Nat.succ) (List.range j)))
   ¤ef:((λi=>plV (endAt ws (p+i))) ∘ Nat.succ)=λi=>plV (endAt ws (p+1+i)):=by
    funext i
    show plV (endAt ws (p+(i+1)))=_
    rw[show p+(i+1)=p+1+i by ¡]
   rw[ef];rfl
 ·intro σ H5 hh;¶ob3 ((eP1 _ _ _).mp hh) λv3 v4 v5 hh=>?_;¤s5:=hh.2.1;¤p5:=hh.2.2.1;¤e5:=hh.2.2.2;£rfl:=hh.1;clear hh;push_cast [and_true];¶q el H5 s5 fe ?_;rw[e5,Nat.sub_self];simp
noncomputable abbrev mw:Stmt:=top 25
theorem E3:az ["kinds","shape","words","ends","place","under","word","there"] ["kinds","shape","words","ends","place"] (ah mw):=⟨rfl,rfl,rfl,by decide+kernel,rfl,by decide+kernel,by decide+kernel⟩
theorem J6 (G:Gs w K mg) (D:Def K mg "_law_laid" mw ["kinds","shape","words","ends","place"]):Has P w K mg base (k+1) "_law_laid" ["kinds","shape","words","ends","place"] (ub K):=by
 ¶D.has E3 (λvs H Q E h=>?_) (λf cdv A outer s H vs Q E hr h=>?_)
 ·£⟨_,_,_,_,_,_,_,_,rfl,_,_,_,_,_,_,_,_,_,_,_⟩:=h;rfl
 ¤nd:=E3.nd;¤hu:=b9 hr;¤hu0:=Nat.lt_of_succ_lt hu;£⟨st,kt,wt,et,sh,kinds,ws,p,rfl,hS,hK,hW,hE,hk,hs,hTm,hl1,tw,hp,q⟩:=h;¤m_int:=G.m_int;¤m_isinstance:=G.m_isinstance;¤m_str:=G.m_str;¤m_tuple:=G.m_tuple;¶⟨_,(A5 (A7 5 nd (AC (A1 (AC (A3 0)) (A1 (AC (A3 0)) (A1 (AC (A3 0)) (A3 0)))))) (A5 (AY (BW (A0 1)) (AJ 6 nd (by first | §Or.inl rfl | §Or.inr rfl)) (A5 (A7 7 nd (A8 (AF 0) (A0 2) (A0 4))) (A6 (AE (BH (BR 0) (A0 6) (A0 0)) (A5 (AS (AU PySem.F.plainAttrs_list PySem.F.slot_list_append PySem.F.type_list_append (AV 0) (A8 (AM 0) (A0 5) (A2 0)) (A1 (A0 4) (A3 0)))) (A6 (A7 4 nd (A8 (AM 0) (A0 3) (A0 4))))) (A6 (AE (BA (BK (AB (AR 0) (A0 6) (AL 0) (AA 0)) (BM (BX (AN (C1 0) m_isinstance dr (A1 (A0 7) (A1 (C2 m_int um) (A3 0)))))))) (A5 (AS (AU PySem.F.plainAttrs_list PySem.F.slot_list_append PySem.F.type_list_append (AV 0) (A8 (AM 0) (A0 5) (A2 0)) (A1 (A0 7) (A3 0)))) (A6 (A7 4 nd (A4 (AK 0) (A0 4) (A2 0))))) (A6 (AE (BA (BK (AB (AR 0) (A0 6) (AL 0) (AA 0)) (BK (BX (AN (C1 0) m_isinstance dr (A1 (A0 7) (A1 (C2 m_str Gd) (A3 0))))) (BM (BH (@je _) (A0 7) (AC (BF (AH (AH (AH (AH (BG 0)))))))))))) (A5 (AS (AU PySem.F.plainAttrs_list PySem.F.slot_list_append PySem.F.type_list_append (AV 0) (A8 (AM 0) (A0 5) (A2 0)) (A1 (A0 7) (A3 0)))) (A6 (A7 4 nd (A4 (AK 0) (A0 4) (A2 0))))) (A6 (AE (AB (AR 0) (A0 6) (A0 7) (AA 0)) (A6 (A7 4 nd (A4 (AK 0) (A0 4) (A2 0)))) (A6 (AD (@Ed _ _ _))))))))))))) (A6 (AD (AI (A1 (AZ (BJ 0) m_tuple fc (A1 (A8 (AM 0) (A0 5) (A2 0)) (A3 0))) (A1 (AZ (BJ 0) m_tuple fc (A1 (A8 (AM 0) (A0 5) (A2 0)) (A3 0))) (A1 (AZ (BJ 0) m_tuple fc (A1 (A8 (AM 0) (A0 5) (A2 0)) (A3 0))) (A3 0))))))))),?_⟩;rw[show start ["kinds","shape","words","ends","place","under","word","there"] [.ref kt,.ref st,.ref wt,.ref et,.int (p:Int)]=[some (.ref kt),some (.ref st),some (.ref wt),some (.ref et),some (.int (p:Int)),none,none,none] from rfl];clear hu hu0 nd hr;push_cast [and_true];¤sz:=sizeLine_eq;¤hw:=λv hv=>(tw.w v hv).1;£⟨n,he⟩:=tw.eat hp;¶⟨Nat.zero_le _,λl1 h1=>⟨Nat.zero_le _,λl2 h2=>⟨Nat.zero_le _,λl3 h3=>⟨by show (3:Nat)≤sizeLine;decide,λu0 h0=>?_⟩⟩⟩⟩;¤n21:l2≠l1:=(ag ae h2).symm;¤n31:l3≠l1:=(ag (aa h2 _ _ _ ae) h3).symm;¤n32:l3≠l2:=(ag ae h3).symm;¤n10:u0≠l1:=(ag (aa h3 _ _ _ (aa h2 _ _ _ ae)) h0).symm;¤n20:u0≠l2:=(ag (aa h3 _ _ _ ae) h0).symm;¤n30:u0≠l3:=(ag ae h0).symm;¤S1:=aa h1 (.lst []);¤f2:=S1.free h2;¤S2:=S1.trans (aa h2 (.lst []));¤f3:=S2.free h3;¤S3:=S2.trans (aa h3 (.lst []));¤S4:=S3.trans (aa h0 (.lst [.ref l1,.ref l2,.ref l3]));¤U4:mv (upd (upd (upd (upd H l1 (.lst [])) l2 (.lst [])) l3 (.lst [])) u0 (.lst [.ref l1,.ref l2,.ref l3])) u0 l1 l2 l3 ⟨[],[],[]⟩:=
  ⟨ae,by rw[af n10.symm,af n31.symm,af n21.symm,ae];rfl,by rw[af n20.symm,af n32.symm,ae],by rw[af n30.symm,ae]⟩
 generalize upd (upd (upd (upd H l1 (.lst [])) l2 (.lst [])) l3 (.lst [])) u0 (.lst [.ref l1,.ref l2,.ref l3])=H4 at S4 U4 ⊢;£⟨P1,eP1⟩:∃P1:Nat→L2.St→Hp→Prop,∀i σ H',P1 i σ H'↔∃(q':Nat) (u:Und) (v6 v7:Option V),σ=[some (.ref kt),some (.ref st),some (.ref wt),some (.ref et),some (.int (q':Int)),some (.ref u0),v6,v7]∧ak H H'∧mv H' u0 l1 l2 l3 u∧dy kinds ws (sh.drop i) q' u=dy kinds ws sh p ⟨[],[],[]⟩∧(u.hs.length≤i∧u.ns.length≤i∧u.vs.length≤i)∧Dg u∧∃d m,pend d ((sh.drop i).map arV)=some 0∧eat d ((ws.drop q').map arV)=some m:=⟨_,λ_ _ _=>Iff.rfl⟩;¶⟨⟨sh,S4.tup hS⟩,qd (xs:=sh) P1 ((eP1 _ _ _).mpr ⟨p,⟨[],[],[]⟩,none,none,rfl,S4,U4,rfl,⟨Nat.zero_le _,Nat.zero_le _,Nat.zero_le _⟩,⟨(λ_ h=>nomatch h),(λ_ h=>nomatch h)⟩,1,n,hTm,he⟩) (λi σ H' _ h=>by £⟨_,_,_,_,_,s,_⟩:=(eP1 _ _ _).mp h;§s.tup hS) ?_ ?_⟩
 ·¿i v σ H5 hvi hh;¶ob4 ((eP1 _ _ _).mp hh) λq' u v6 v7 hh=>?_;¤s5:=hh.2.1;¤U5:=hh.2.2.1;¤e5:=hh.2.2.2.1;¤hul:=hh.2.2.2.2.1;¤huw:=hh.2.2.2.2.2.1;¤hdm:=hh.2.2.2.2.2.2;£rfl:=hh.1;clear hh;£⟨d,m,hp5,he5⟩:=hdm;¤fin:∀(q2:Nat) (z:Int) (u2:Und) (w6 w7:Option V) (H':Hp),z=(q2:Int)→ak H H'→mv H' u0 l1 l2 l3 u2→dy kinds ws (sh.drop (i+1)) q2 u2=dy kinds ws sh p ⟨[],[],[]⟩→(u2.hs.length≤i+1∧u2.ns.length≤i+1∧u2.vs.length≤i+1)→Dg u2→(∃d m,pend d ((sh.drop (i+1)).map arV)=some 0∧eat d ((ws.drop q2).map arV)=some m)→P1 (i+1) [some (.ref kt),some (.ref st),some (.ref wt),some (.ref et),some (.int z),some (.ref u0),w6,w7] H':=λq2 z u2 w6 w7 H' ez a1 a2 a3 a4 a5 a6=>(eP1 _ _ _).mpr ⟨q2,u2,w6,w7,by rw[ez],a1,a2,a3,a4,a5,a6⟩;¤hil:i < sh.length:=(List.getElem?_eq_some_iff.mp hvi).1;¤ed:sh.drop i=v::sh.drop (i+1):=by
   rw[List.drop_eq_getElem_cons hil];congr 1
   rw[List.getElem?_eq_getElem hil] at hvi;§Option.some.inj hvi
  rw[ed] at e5 hp5;£⟨d',rfl⟩:∃d',d=d'+1:=by
   cases d with
   | zero=>cases hp5
   | succ d'=>§⟨d',rfl⟩
  ¤hq:q' < ws.length:=by
   ¤a1:=zm _ _ _ he5;¤a2:=wb _ _ _ he5;rw[List.length_map,List.length_drop] at a2;¡
  ¤hx:ws[q']?=some ws[q']:=List.getElem?_eq_getElem hq;£⟨hxw,hxa,hxv⟩:=tw.w _ (List.getElem_mem hq);¤hat:atI ws (q':Int)=some ws[q']:=bo hx;¤hvw:=hs v (List.mem_of_getElem? hvi);¤hgd:ws.getD q' .non=ws[q']:=by rw[List.getD_eq_getElem?_getD,hx];rfl
  rw[m6,hgd] at e5;generalize ws[q']=x at hx hxw hxa hxv hat hgd e5;¤hul':=u.Fb (cm kinds v) q' x hul;¤huw':=huw.put hxw (cm kinds v) q';£⟨b1,b2,b3,b4,b5,b6⟩:=lets;¤fl:(kinds.map V.str).all ij=true:=List.all_eq_true.mpr λx hx=>by £⟨z,_,rfl⟩:=List.mem_map.mp hx;rfl
  push_cast [rIn];¶⟨wt,ws,_,x,rfl,rfl,s5.tup hW,hat,_,.inr (s5.tup hK),hvw.flat,fl,?_⟩;¤nav:¬ig=V.str (Str.ofString "var"):=by decide+kernel
  ¤nva:¬gq=V.str (Str.ofString "any"):=by decide+kernel
  rcases gh (kinds:=kinds) hvw with ⟨rfl,h⟩ | ⟨rfl,h⟩ | ⟨⟨z,hz,rfl⟩,h⟩ | ⟨h,hno⟩
  ·rw[if_neg (by rw[show inV ig (kinds.map V.str)=false from hk.out (.inl rfl)];decide)];¶⟨hvw.sc _,?_⟩;rw[if_pos (show ig=V.str (Str.ofString "any") from rfl)];£⟨k',rfl⟩:=hxw;cases k' with
   | inl i0=>
    ¤hli:lies (cm kinds ig) ig (kV (Sum.inl i0))=true:=by unfold lies;rw[h,if_neg b1,if_pos rfl];rfl
    £⟨d2,m2,hp6,he6⟩:=jb hk hvw hx ⟨_,rfl⟩ hp5 he5 hli;rw[if_pos hli,h,if_neg b1] at e5;rw[h,if_neg b1] at he6;rw[h] at hul' huw';§⟨_,.int i0,true,rfl,iteT (ao U5.1 rfl (bb U5.2.2.1 ¥ (fin (q'+1) _ _ _ _ _ ¥ (s5.upd f2 _) (U5.put2 n20 n21 n32 q' _) e5 hul' huw' ⟨d2,m2,hp6,he6⟩)))⟩
   | inr y=>
    ¤hli:¬lies (cm kinds ig) ig (kV (Sum.inr y))=true:=by unfold lies;rw[h,if_neg b1,if_pos rfl];§Bool.false_ne_true
    rw[if_neg hli] at e5;¤z:=q H5 s5;rw[←e5] at z;¶⟨_,.str y,false,rfl,iteF ⟨hvw.sc _,?_⟩⟩;rw[if_neg nav];¶⟨hvw.sc2 ⟨_,rfl⟩,?_⟩;rw[if_neg λe=>hxa e.symm];§z
  ·rw[if_neg (by rw[show inV gq (kinds.map V.str)=false from hk.out (.inr rfl)];decide)];¶⟨hvw.sc _,?_⟩;rw[if_neg nva];¶⟨hvw.sc _,?_⟩;rw[if_pos (show gq=V.str (Str.ofString "var") from rfl)];¤hxw':=hxw;£⟨k',rfl⟩:=hxw;cases k' with
   | inl i0=>
    ¤hli:¬lies (cm kinds gq) gq (kV (Sum.inl i0))=true:=by unfold lies;rw[h,if_neg b2,if_neg b4,if_pos rfl];§Bool.false_ne_true
    rw[if_neg hli] at e5;¤z:=q H5 s5;rw[←e5] at z;¶⟨_,.int i0,false,rfl,iteF ⟨hvw.sc2 ⟨_,rfl⟩,?_⟩⟩;rw[if_neg λe=>hxv e.symm];§z
   | inr y=>
    ¶⟨_,.str y,true,rfl,iteT ⟨by show (4:Nat)≤sizeLine;decide,λpl hpl=>⟨_,.inl (SqL.of ae),rfl,rfl,?_⟩⟩⟩;¤four:=zv hxw';¤s6:=s5.trans (aa hpl (.lst [V.str (Str.ofString "add"),V.str (Str.ofString "sub"),V.str (Str.ofString "mul"),V.str (Str.ofString "neg")]));¤U6:=U5.same (aa hpl (.lst [V.str (Str.ofString "add"),V.str (Str.ofString "sub"),V.str (Str.ofString "mul"),V.str (Str.ofString "neg")]));¦c:0 < arV (kV (Sum.inr y))
    ·¤hli:¬lies (cm kinds gq) gq (kV (Sum.inr y))=true:=by
      unfold lies;rw[h,if_neg b2,if_neg b4,if_pos rfl,decide_eq_false ¥,Bool.and_false];decide
     rw[if_neg hli] at e5;¤z:=q _ s6;rw[←e5] at z;rw[if_neg (by rw[show inV (kV (Sum.inr y)) [V.str (Str.ofString "add"),V.str (Str.ofString "sub"),V.str (Str.ofString "mul"),V.str (Str.ofString "neg")]=true from four.mpr c];decide)];¶⟨hvw.sc2 ⟨_,rfl⟩,?_⟩;rw[if_neg λe=>hxv e.symm];§z
    ·¤hli:lies (cm kinds gq) gq (kV (Sum.inr y))=true:=by
      unfold lies;rw[h,if_neg b2,if_neg b4,if_pos rfl,decide_eq_true ¥,Bool.and_true];rfl
     £⟨d2,m2,hp6,he6⟩:=jb hk hvw hx ⟨_,rfl⟩ hp5 he5 hli;rw[if_pos hli,h,if_neg b2] at e5;rw[h,if_neg b2] at he6;rw[h] at hul' huw';¤c':inV (kV (Sum.inr y)) [V.str (Str.ofString "add"),V.str (Str.ofString "sub"),V.str (Str.ofString "mul"),V.str (Str.ofString "neg")]=false:=Bool.eq_false_iff.mpr λe=>c (four.mp e);rw[if_pos (by rw[c'];decide)];§ao U6.1 rfl (bb U6.2.2.2 ¥ (fin (q'+1) _ _ _ _ _ ¥ (s6.upd f3 _) (U6.put3 n30 n31 n32 q' _) e5 hul' huw' ⟨d2,m2,hp6,he6⟩))
  ·rw[if_pos (letH h)];¤hli:lies (cm kinds (.str z)) (.str z) x=true:=by unfold lies;rw[if_pos h]
   £⟨d2,m2,hp6,he6⟩:=jb hk hvw hx hxw hp5 he5 hli;rw[if_pos hli,if_pos h,h] at e5;rw[if_pos h] at he6;rw[h] at hul' huw';¤nel:et≠l1:=ag hE h1;¶ao U5.1 rfl (bb U5.2.1 (by rw[List.length_map];¡) (ao (by rw[af nel];§s5 _ _ hE) (bo (by rw[List.getElem?_map,List.getElem?_range hq];rfl)) (fin (endAt ws q') _ _ _ _ _ rfl (s5.upd h1 _) (U5.put1 n10 n21 n31 q' x) e5 hul' huw' ⟨d2,m2,hp6,he6⟩)))
  ·£⟨na,nv⟩:=letO h;rw[if_neg (by rw[hno];decide)];¶⟨hvw.sc _,?_⟩;rw[if_neg (show ¬v=V.str (Str.ofString "any") from na)];¶⟨hvw.sc _,?_⟩;rw[if_neg (show ¬v=V.str (Str.ofString "var") from nv)];¶⟨hvw.sc2 hxw,?_⟩;¦c:v=x
   ·¤hli:lies (cm kinds v) v x=true:=by unfold lies;rw[h,if_neg b3,if_neg b5,if_neg b6];§decide_eq_true c
    £⟨d2,m2,hp6,he6⟩:=jb hk hvw hx hxw hp5 he5 hli;rw[if_pos hli,h,if_neg b3,u.put0] at e5;rw[h,if_neg b3] at he6;rw[h,u.put0] at hul' huw';rw[if_pos c];§fin (q'+1) _ _ _ _ _ ¥ s5 U5 e5 hul' huw' ⟨d2,m2,hp6,he6⟩
   ·¤hli:¬lies (cm kinds v) v x=true:=by unfold lies;rw[h,if_neg b3,if_neg b5,if_neg b6];§λe=>c (of_decide_eq_true e)
    rw[if_neg hli] at e5;¤z:=q H5 s5;rw[←e5] at z;rw[if_neg c];§z
 ·intro σ H5 hh;¶ob4 ((eP1 _ _ _).mp hh) λq' u v6 v7 hh=>?_;¤s5:=hh.2.1;¤U5:=hh.2.2.1;¤e5:=hh.2.2.2.1;¤hul:=hh.2.2.2.2.1;¤huw:=hh.2.2.2.2.2.1;¤hdm:=hh.2.2.2.2.2.2;£rfl:=hh.1;clear hh;£⟨d,m,hp5,he5⟩:=hdm;rw[List.drop_length] at e5;¤z:=q H5 s5;rw[←e5] at z;push_cast [and_true];¶ao U5.1 rfl ⟨_,.inl ⟨SqL.of U5.2.1,λt1 ht1=>?_⟩⟩;¤U6:=U5.same (aa ht1 (.tup (u.hs.map plV)));¶ao U6.1 rfl ⟨_,.inl ⟨SqL.of U6.2.2.1,λt2 ht2=>?_⟩⟩;¤U7:=U6.same (aa ht2 (.tup u.ns));¶ao U7.1 rfl ⟨_,.inl ⟨SqL.of U7.2.2.2,λt3 ht3=>⟨by show (3:Nat)≤sizeLine;decide,λt ht=>?_⟩⟩⟩;§z t _ ((aa ht1 _).trans ((aa ht2 _).trans ((aa ht3 _).trans (aa ht _)))) ⟨t1,t2,t3,ae,aa ht _ _ _ (aa ht3 _ _ _ (aa ht2 _ _ _ ae)),aa ht _ _ _ (aa ht3 _ _ _ ae),aa ht _ _ _ ae⟩ ⟨⟨huw.1,¥⟩,⟨huw.2,¥⟩,¥⟩
noncomputable abbrev wu:Stmt:=top 23
theorem M9:az ["deck","names","most","words","due","cell","more","room","far"] ["deck","names","most"] (ah wu):=⟨rfl,rfl,rfl,by decide+kernel,rfl,by decide+kernel,by decide+kernel⟩
theorem Ni (G:Gs w K mg) (h_law_next:Has P w K mg base k "_law_next" ["deck"] gn) (D:Def K mg "_law_term" wu ["deck","names","most"]):Has P w K mg base (k+1) "_law_term" ["deck","names","most"] sk:=by
 ¶D.has M9 (λvs H Q E h=>?_) (λf cdv A outer s H vs Q E hr h=>?_)
 ·£⟨_,_,_,_,_,_,_,rfl,_,_,_,_,_,_⟩:=h;rfl
 ¤nd:=M9.nd;¤hu:=b9 hr;¤hu0:=Nat.lt_of_succ_lt hu;£⟨d,nl,b,ns,zs,m,n,rfl,hD,hN,h1,h2,hn,q⟩:=h;¤m_len:=G.m_len;¤m_tuple:=G.m_tuple;¶⟨_,(A5 (A7 3 nd (AC (A3 0))) (A5 (A7 4 nd (A2 0)) (A5 (C4 (AB (@jd _) (A0 4) (A2 0) (AA 0)) (A5 (A7 5 nd (AG h_law_next hr (A1 (A0 0) (A3 0)))) (A5 (A7 6 nd (A4 (AQ 0) (A0 5) (A2 0))) (A5 (A7 7 nd (A4 (B0 0) (A4 (B0 0) (A0 2) (AN (AX 0) m_len cw (A1 (A0 3) (A3 0)))) (A0 4))) (A6 (AE (BA (BK (AB (@ni _) (A4 (A9 0) (A0 5) (A2 0)) (A2 0) (AA 0)) (BM (AB (@jd _) (A0 7) (A2 0) (AA 0))))) (A5 (AS (AU PySem.F.plainAttrs_list PySem.F.slot_list_append PySem.F.type_list_append (AV 0) (A0 3) (A1 (A8 (AM 0) (AC (BF (AH (AH (AH (BG 0)))))) (A4 (A9 0) (A0 5) (A2 0))) (A3 0)))) (A6 (A7 4 nd (A4 (AK 0) (A0 4) (A2 0))))) (A6 (AE (BA (BK (AB (AR 0) (A4 (A9 0) (A0 5) (A2 0)) (A2 0) (AA 0)) (BM (AB (@jd _) (A0 7) (A2 0) (AA 0))))) (A6 (AS (AU PySem.F.plainAttrs_list PySem.F.slot_list_append PySem.F.type_list_append (AV 0) (A0 3) (A1 (AL 0) (A3 0))))) (A5 (A7 4 nd (A4 (B0 0) (A0 4) (A2 0))) (A5 (A7 8 nd (A8 (AM 0) (AC (A1 (A2 0) (A1 (A2 0) (A1 (A2 0) (A1 (A4 (@iu _) (A2 0) (A2 0)) (A1 (A4 (@iu _) (A2 0) (A2 0)) (A1 (A4 (@iu _) (A2 0) (A2 0)) (A3 0)))))))) (A4 (A9 0) (A4 (AQ 0) (A0 6) (A2 0)) (A2 0)))) (A5 (A7 8 nd (A8 (AM 0) (AC (A1 (A4 (B0 0) (A4 (A9 0) (A4 (AQ 0) (A0 6) (A2 0)) (A4 (@iu _) (A2 0) (A2 0))) (A2 0)) (A1 (A0 8) (A1 (A4 (B0 0) (A2 0) (A0 8)) (A3 0))))) (A4 (A9 0) (A4 (AQ 0) (A0 6) (A2 0)) (A2 0)))) (A6 (AS (AU PySem.F.plainAttrs_list PySem.F.slot_list_append PySem.F.type_list_append (AV 0) (A0 3) (A1 (A8 (AM 0) (AC (A1 (A8 (AM 0) (A0 1) (A2 0)) (A1 (A8 (AM 0) (A0 1) (A2 0)) (A1 (A8 (AM 0) (A0 1) (A2 0)) (A1 (A2 0) (A1 (A2 0) (A1 (BZ (@jj _) (A2 0)) (A1 (A2 0) (A1 (A0 8) (A1 (A0 8) (A3 0))))))))))) (A4 (A9 0) (A0 6) (A2 0))) (A3 0)))))))))))))))) (A6 (AD (AZ (BJ 0) m_tuple fc (A1 (A0 3) (A3 0)))))))),?_⟩;rw[show start ["deck","names","most","words","due","cell","more","room","far"] [.ref d,.ref nl,.int (m:Int)]=[some (.ref d),some (.ref nl),some (.int (m:Int)),none,none,none,none,none,none] from rfl];clear hu hu0 nd hr;push_cast [and_true];¤sz:=sizeLine_eq;¶⟨Nat.zero_le _,λp hp=>?_⟩;¤npd:p≠d:=(ag hD.1 hp).symm;£⟨P1,eP1⟩:∃P1:L2.St→Hp→Prop,∀σ H',P1 σ H'↔∃(ws:List V) (due:Nat) (v1 v2 v3 v4:Option V),σ=[some (.ref d),some (.ref nl),some (.int (m:Int)),some (.ref p),some (.int (due:Int)),v1,v2,v3,v4]∧aq d H H'∧H' d=some (.lst [.ref b,.int ((n+ws.length:Nat):Int)])∧H' p=some (.lst ws)∧(∀v∈ws,twW v)∧pend 1 (ws.map arV)=some due∧ws.length+due≤m:=⟨_,λ_ _=>Iff.rfl⟩;¶kj P1 (λσ H'=>m - rh H' p) ?_ ?_ ?_
 ·§(eP1 _ _).mpr ⟨[],1,none,none,none,none,rfl,(aq.refl d H).upd hp _,aa hp _ _ _ hD.1,ae,(λ_ h=>nomatch h),rfl,by show 0+1≤m;¡⟩
 ·intro σ H' hh;¶ob6 ((eP1 _ _).mp hh) λws due v1 v2 v3 v4 hh=>?_;¤hS:=hh.2.1;¤hD':=hh.2.2.1;¤hp':=hh.2.2.2.1;¤hw:=hh.2.2.2.2.1;¤hpd:=hh.2.2.2.2.2.1;¤hr:=hh.2.2.2.2.2.2;£rfl:=hh.1;clear hh;push_cast [and_true];¤hDk:cu H' d b ns (n+ws.length):=hD.next hS hD'
  ¶bu (λhdue=>nh hDk ¥ λc H1 s1 d1=>?_) λhdue=>?_
  ·push_cast [pj,CPow];¤hp1':H1 p=some (.lst ws):=s1 p _ npd hp';¤hN1:=hN.b8 hD (hS.trans s1);¤at':∀i:Nat,i < 60→atI (zs.map V.str) (i:Int)=some (.str (zs.getD i "")):=λi hi=>bo (by rw[List.getElem?_map,List.getD_eq_getElem?_getD,List.getElem?_eq_getElem (by rw[hN.2.1];§hi)];rfl);¤ok':∀i:Nat,i < 60→nmOk (zs.getD i ""):=λi hi=>by
    rw[List.getD_eq_getElem?_getD,List.getElem?_eq_getElem (by rw[hN.2.1];§hi)];§hN.2.2.2 _ (List.getElem_mem _)
   ¤app:∀(v:V) (H2:Hp) (dd:Int),twW v→dd=(due:Int) - 1+(arV v:Int)→ws.length+due+arV v≤m→ak H1 H2→
     ∀w1 w2 w3 w4,qa (.ref p) [v] H2 λ_ H3=>P1 [some (.ref d),some (.ref nl),some (.int (m:Int)),some (.ref p),some (.int dd),w1,w2,w3,w4] H3∧m - rh H3 p < m - rh H' p:=by
    ¿v H2 dd hv hdd hroom s2 w1 w2 w3 w4;¤hp2:=s2 _ _ hp1';¶⟨p,ws,v,rfl,rfl,hp2,¥,(eP1 _ _).mpr ⟨ws++[v],due - 1+arV v,w1,w2,w3,w4,by rw[show dd=((due - 1+arV v:Nat):Int) by ¡],(hS.trans (s1.trans (aq.of s2))).upd hp _,?_,ae,λx hx=>?_,?_,?_⟩,?_⟩
    ·rw[af npd.symm,List.length_append];§s2 _ _ d1
    ·rcases List.mem_append.mp hx with h | h
     ·§hw x h
     ·rw[List.mem_singleton.mp h];§hv
    ·rw[List.map_append];§xw _ _ _ _ hpd ¥
    ·rw[List.length_append,List.length_singleton];¡
    ·rw[n0 ae,n0 hp',List.length_append,List.length_singleton];¡
   ¶⟨ws,.inl (SqL.of hp1'),bu (λc3=>bu (λr1=>⟨av hp1',by show (3:Nat)≤sizeLine;decide,λp2 hp2=>?_⟩) λr1=>⟨rfl,bu (λe4=>by ¡) λe4=>?_⟩) λc3=>⟨rfl,bu (λe4=>bu (λr0=>⟨av hp1',?_⟩) λr0=>?_) λe4=>?_⟩⟩
   ·£⟨y,hy,hym⟩:=b7 [V.str (Str.ofString "add"),V.str (Str.ofString "sub"),V.str (Str.ofString "mul")] (c % 7) (Int.emod_nonneg _ (by decide)) (by show c % 7 < 3;¡);£⟨z,rfl,a2⟩:∃z,y=V.str z∧arS z=2:=by
     simp only[List.mem_cons,List.not_mem_nil,or_false] at hym;rcases hym with rfl | rfl | rfl
     ·§⟨_,rfl,by decide+kernel⟩
     ·§⟨_,rfl,by decide+kernel⟩
     ·§⟨_,rfl,by decide+kernel⟩
    ¤a2':arV (.str z)=2:=a2;§ao ae hy (app (.str z) _ ((due:Int)+1) (twW_op ¥) (by rw[a2'];¡) (by rw[a2'];¡) (aa hp2 _) _ _ _ _)
   ·¶⟨by decide,by decide,by decide,by show (6:Nat)≤sizeLine;decide,λp1 hp1=>?_⟩;£⟨f1,hf1,hm1⟩:=b7 [V.int 3,V.int 7,V.int 41,V.int (10 ^ Int.toNat 3),V.int (10 ^ Int.toNat 9),V.int (10 ^ Int.toNat 29)] (c / 7 / 27 % 6) (Int.emod_nonneg _ (by decide)) (by show c / 7 / 27 % 6 < 6;¡);£⟨i1,rfl⟩:∃i,f1=V.int i:=by
     simp only[List.mem_cons,List.not_mem_nil,or_false] at hm1;rcases hm1 with rfl | rfl | rfl | rfl | rfl | rfl <;> §⟨_,rfl⟩
    ¶ao ae hf1 ⟨by decide,by decide+kernel,by show (3:Nat)≤sizeLine;decide,λp2 hp2=>?_⟩;£⟨f2,hf2,hm2⟩:=b7 [V.int (c / 7 / 9 % 10 ^ Int.toNat 20 - 7),V.int i1,V.int (0 - i1)] (c / 7 / 9 % 3) (Int.emod_nonneg _ (by decide)) (by show c / 7 / 9 % 3 < 3;¡);£⟨i2,rfl⟩:∃i,f2=V.int i:=by
     simp only[List.mem_cons,List.not_mem_nil,or_false] at hm2;rcases hm2 with rfl | rfl | rfl <;> §⟨_,rfl⟩
    ¤s2:=(aa hp1 (.lst [V.int 3,V.int 7,V.int 41,V.int (10 ^ Int.toNat 3),V.int (10 ^ Int.toNat 9),V.int (10 ^ Int.toNat 29)])).trans (aa hp2 (.lst [V.int (c / 7 / 9 % 10 ^ Int.toNat 20 - 7),V.int i1,V.int (0 - i1)]));¶ao ae hf2 ⟨av (s2 _ _ hp1'),ao (s2 _ _ hN1.1) (at' 0 (by decide)) (ao (s2 _ _ hN1.1) (at' 50 (by decide)) (ao (s2 _ _ hN1.1) (at' 51 (by decide)) ⟨by show (9:Nat)≤sizeLine;decide,λp3 hp3=>?_⟩))⟩;£⟨f3,hf3,hm3⟩:=b7 [V.str (zs.getD 0 ""),V.str (zs.getD 50 ""),V.str (zs.getD 51 ""),V.int 0,V.int 2,V.int (-1),V.int 5,V.int i2,V.int i2] (c / 7 % 9) (Int.emod_nonneg _ (by decide)) (by show c / 7 % 9 < 9;¡);£⟨t3,a3⟩:twW f3∧arV f3=0:=by
     simp only[List.mem_cons,List.not_mem_nil,or_false] at hm3;rcases hm3 with rfl | rfl | rfl | rfl | rfl | rfl | rfl | rfl | rfl
     ·§⟨twW_name (ok' 0 (by decide)),(ok' 0 (by decide)).1⟩
     ·§⟨twW_name (ok' 50 (by decide)),(ok' 50 (by decide)).1⟩
     ·§⟨twW_name (ok' 51 (by decide)),(ok' 51 (by decide)).1⟩
     all_goals §⟨twW_int _,rfl⟩
    §ao ae hf3 (app f3 _ ((due:Int) - 1) t3 (by rw[a3];¡) (by rw[a3];¡) (s2.trans (aa hp3 _)) _ _ _ _)
   ·¤an:arV (.str (Str.ofString "neg"))=1:=Am;§app (.str (Str.ofString "neg")) H1 (due:Int) (twW_op (by decide+kernel)) (by rw[an];¡) (by rw[an];¡) (ak.refl _) _ _ _ _
   ·¶⟨by decide,by decide,by decide,by show (6:Nat)≤sizeLine;decide,λp1 hp1=>?_⟩;£⟨f1,hf1,hm1⟩:=b7 [V.int 3,V.int 7,V.int 41,V.int (10 ^ Int.toNat 3),V.int (10 ^ Int.toNat 9),V.int (10 ^ Int.toNat 29)] (c / 7 / 27 % 6) (Int.emod_nonneg _ (by decide)) (by show c / 7 / 27 % 6 < 6;¡);£⟨i1,rfl⟩:∃i,f1=V.int i:=by
     simp only[List.mem_cons,List.not_mem_nil,or_false] at hm1;rcases hm1 with rfl | rfl | rfl | rfl | rfl | rfl <;> §⟨_,rfl⟩
    ¶ao ae hf1 ⟨by decide,by decide+kernel,by show (3:Nat)≤sizeLine;decide,λp2 hp2=>?_⟩;£⟨f2,hf2,hm2⟩:=b7 [V.int (c / 7 / 9 % 10 ^ Int.toNat 20 - 7),V.int i1,V.int (0 - i1)] (c / 7 / 9 % 3) (Int.emod_nonneg _ (by decide)) (by show c / 7 / 9 % 3 < 3;¡);£⟨i2,rfl⟩:∃i,f2=V.int i:=by
     simp only[List.mem_cons,List.not_mem_nil,or_false] at hm2;rcases hm2 with rfl | rfl | rfl <;> §⟨_,rfl⟩
    ¤s2:=(aa hp1 (.lst [V.int 3,V.int 7,V.int 41,V.int (10 ^ Int.toNat 3),V.int (10 ^ Int.toNat 9),V.int (10 ^ Int.toNat 29)])).trans (aa hp2 (.lst [V.int (c / 7 / 9 % 10 ^ Int.toNat 20 - 7),V.int i1,V.int (0 - i1)]));¶ao ae hf2 ⟨av (s2 _ _ hp1'),ao (s2 _ _ hN1.1) (at' 0 (by decide)) (ao (s2 _ _ hN1.1) (at' 50 (by decide)) (ao (s2 _ _ hN1.1) (at' 51 (by decide)) ⟨by show (9:Nat)≤sizeLine;decide,λp3 hp3=>?_⟩))⟩;£⟨f3,hf3,hm3⟩:=b7 [V.str (zs.getD 0 ""),V.str (zs.getD 50 ""),V.str (zs.getD 51 ""),V.int 0,V.int 2,V.int (-1),V.int 5,V.int i2,V.int i2] (c / 7 % 9) (Int.emod_nonneg _ (by decide)) (by show c / 7 % 9 < 9;¡);£⟨t3,a3⟩:twW f3∧arV f3=0:=by
     simp only[List.mem_cons,List.not_mem_nil,or_false] at hm3;rcases hm3 with rfl | rfl | rfl | rfl | rfl | rfl | rfl | rfl | rfl
     ·§⟨twW_name (ok' 0 (by decide)),(ok' 0 (by decide)).1⟩
     ·§⟨twW_name (ok' 50 (by decide)),(ok' 50 (by decide)).1⟩
     ·§⟨twW_name (ok' 51 (by decide)),(ok' 51 (by decide)).1⟩
     all_goals §⟨twW_int _,rfl⟩
    §ao ae hf3 (app f3 _ ((due:Int) - 1) t3 (by rw[a3];¡) (by rw[a3];¡) (s2.trans (aa hp3 _)) _ _ _ _)
   ·¶⟨by decide,by decide,by decide,by show (6:Nat)≤sizeLine;decide,λp1 hp1=>?_⟩;£⟨f1,hf1,hm1⟩:=b7 [V.int 3,V.int 7,V.int 41,V.int (10 ^ Int.toNat 3),V.int (10 ^ Int.toNat 9),V.int (10 ^ Int.toNat 29)] (c / 7 / 27 % 6) (Int.emod_nonneg _ (by decide)) (by show c / 7 / 27 % 6 < 6;¡);£⟨i1,rfl⟩:∃i,f1=V.int i:=by
     simp only[List.mem_cons,List.not_mem_nil,or_false] at hm1;rcases hm1 with rfl | rfl | rfl | rfl | rfl | rfl <;> §⟨_,rfl⟩
    ¶ao ae hf1 ⟨by decide,by decide+kernel,by show (3:Nat)≤sizeLine;decide,λp2 hp2=>?_⟩;£⟨f2,hf2,hm2⟩:=b7 [V.int (c / 7 / 9 % 10 ^ Int.toNat 20 - 7),V.int i1,V.int (0 - i1)] (c / 7 / 9 % 3) (Int.emod_nonneg _ (by decide)) (by show c / 7 / 9 % 3 < 3;¡);£⟨i2,rfl⟩:∃i,f2=V.int i:=by
     simp only[List.mem_cons,List.not_mem_nil,or_false] at hm2;rcases hm2 with rfl | rfl | rfl <;> §⟨_,rfl⟩
    ¤s2:=(aa hp1 (.lst [V.int 3,V.int 7,V.int 41,V.int (10 ^ Int.toNat 3),V.int (10 ^ Int.toNat 9),V.int (10 ^ Int.toNat 29)])).trans (aa hp2 (.lst [V.int (c / 7 / 9 % 10 ^ Int.toNat 20 - 7),V.int i1,V.int (0 - i1)]));¶ao ae hf2 ⟨av (s2 _ _ hp1'),ao (s2 _ _ hN1.1) (at' 0 (by decide)) (ao (s2 _ _ hN1.1) (at' 50 (by decide)) (ao (s2 _ _ hN1.1) (at' 51 (by decide)) ⟨by show (9:Nat)≤sizeLine;decide,λp3 hp3=>?_⟩))⟩;£⟨f3,hf3,hm3⟩:=b7 [V.str (zs.getD 0 ""),V.str (zs.getD 50 ""),V.str (zs.getD 51 ""),V.int 0,V.int 2,V.int (-1),V.int 5,V.int i2,V.int i2] (c / 7 % 9) (Int.emod_nonneg _ (by decide)) (by show c / 7 % 9 < 9;¡);£⟨t3,a3⟩:twW f3∧arV f3=0:=by
     simp only[List.mem_cons,List.not_mem_nil,or_false] at hm3;rcases hm3 with rfl | rfl | rfl | rfl | rfl | rfl | rfl | rfl | rfl
     ·§⟨twW_name (ok' 0 (by decide)),(ok' 0 (by decide)).1⟩
     ·§⟨twW_name (ok' 50 (by decide)),(ok' 50 (by decide)).1⟩
     ·§⟨twW_name (ok' 51 (by decide)),(ok' 51 (by decide)).1⟩
     all_goals §⟨twW_int _,rfl⟩
    §ao ae hf3 (app f3 _ ((due:Int) - 1) t3 (by rw[a3];¡) (by rw[a3];¡) (s2.trans (aa hp3 _)) _ _ _ _)
  ·¤d0:due=0:=by ¡
   subst d0;¶⟨ws,.inl ⟨SqL.of hp',λt ht=>?_⟩⟩;¤htn:=hS.free hD' ht;§q t (n+ws.length) _ ws (hS.upd htn _) (by rw[af (ag hD' ht)];§hD') ¥ htn ae ⟨hw,hpd,¥⟩ ¥
 ·intro σ H' Q1 Q2 hq h;simp only[Cp,tOp,rI0,ja,tC,j6,jv,tB] at h ⊢;£⟨v,hv,i,j,e1,e2,k,e3,h⟩:=h;§⟨v,hv,i,j,e1,e2,k,e3,hq _ _ h⟩
noncomputable abbrev nq:Stmt:=top 20
theorem Fg:az ["deck","kinds","words","due","left","wide","cell","more","far","number"] ["deck","kinds"] (ah nq):=⟨rfl,rfl,rfl,by decide+kernel,rfl,by decide+kernel,by decide+kernel⟩
theorem J5 (G:Gs w K mg) (h_law_next:Has P w K mg base k "_law_next" ["deck"] gn) (D:Def K mg "_law_shape" nq ["deck","kinds"]):Has P w K mg base (k+1) "_law_shape" ["deck","kinds"] tf:=by
 ¶D.has Fg (λvs H Q E h=>?_) (λf cdv A outer s H vs Q E hr h=>?_)
 ·£⟨_,_,_,_,_,_,rfl,_,_,_,_,_,_,_⟩:=h;rfl
 ¤nd:=Fg.nd;¤hu:=b9 hr;¤hu0:=Nat.lt_of_succ_lt hu;£⟨d,kt,b,ns,kinds,n,rfl,hD,hK,hk,h1,h2,hn,q⟩:=h;¤m_int:=G.m_int;¤m_len:=G.m_len;¤m_tuple:=G.m_tuple;¶⟨_,(A5 (A7 2 nd (AC (A3 0))) (A5 (A7 3 nd (A2 0)) (A5 (A7 4 nd (AG h_law_next hr (A1 (A0 0) (A3 0)))) (A5 (A7 5 nd (C5 (AR 0) (A4 (A9 0) (A4 (AQ 0) (A0 4) (A2 0)) (A2 0)) (A2 0) (AA 0))) (A5 (A7 4 nd (A8 (AM 0) (AC (A1 (A4 (AK 0) (A2 0) (A4 (A9 0) (A0 4) (A2 0))) (A1 (A2 0) (A3 0)))) (AZ (@gx _) m_int um (A1 (A0 5) (A3 0))))) (A5 (C4 (AB (@jd _) (A0 3) (A2 0) (AA 0)) (A5 (A7 6 nd (AG h_law_next hr (A1 (A0 0) (A3 0)))) (A5 (A7 7 nd (A4 (AQ 0) (A0 6) (A2 0))) (A6 (AE (BA (BK (AB (@jd _) (A0 4) (A2 0) (AA 0)) (BM (AB (@ni _) (A4 (A9 0) (A0 6) (A2 0)) (A4 (AK 0) (A2 0) (AZ (@gx _) m_int um (A1 (A0 5) (A3 0)))) (AA 0))))) (A5 (A7 4 nd (A4 (B0 0) (A0 4) (A2 0))) (A5 (AS (AU PySem.F.plainAttrs_list PySem.F.slot_list_append PySem.F.type_list_append (AV 0) (A0 2) (A1 (A8 (AM 0) (AC (BF (AH (AH (AH (AH (BG 0))))))) (A4 (A9 0) (A0 7) (A2 0))) (A3 0)))) (A6 (A7 3 nd (A4 (AK 0) (A0 3) (AZ (@gx _) m_int um (A1 (C5 (@ni _) (A4 (A9 0) (A0 7) (A2 0)) (A2 0) (AA 0)) (A3 0)))))))) (A6 (AE (BA (BK (AB (@jd _) (A0 4) (A2 0) (AA 0)) (BM (AB (AR 0) (A4 (A9 0) (A0 6) (A2 0)) (A2 0) (AA 0))))) (A5 (A7 4 nd (A4 (B0 0) (A0 4) (A2 0))) (A5 (A7 3 nd (A4 (B0 0) (A0 3) (A2 0))) (A5 (A7 8 nd (A8 (AM 0) (AC (A1 (A2 0) (A1 (A2 0) (A1 (A2 0) (A1 (A4 (@iu _) (A2 0) (A2 0)) (A1 (A4 (@iu _) (A2 0) (A2 0)) (A1 (A4 (@iu _) (A2 0) (A2 0)) (A3 0)))))))) (A4 (A9 0) (A4 (AQ 0) (A0 7) (A2 0)) (A2 0)))) (A5 (A7 9 nd (A8 (AM 0) (AC (A1 (A2 0) (A1 (A2 0) (A1 (BZ (@jj _) (A2 0)) (A1 (A2 0) (A1 (A0 8) (A1 (A4 (B0 0) (A2 0) (A0 8)) (A3 0)))))))) (A4 (A9 0) (A4 (AQ 0) (A0 7) (A2 0)) (A2 0)))) (A6 (AS (AU PySem.F.plainAttrs_list PySem.F.slot_list_append PySem.F.type_list_append (AV 0) (A0 2) (A1 (A8 (AM 0) (AC (A1 (AL 0) (A1 (AL 0) (A1 (A0 9) (A3 0))))) (A4 (A9 0) (A0 7) (A2 0))) (A3 0))))))))) (A5 (A7 3 nd (A4 (B0 0) (A0 3) (A2 0))) (A6 (AS (AU PySem.F.plainAttrs_list PySem.F.slot_list_append PySem.F.type_list_append (AV 0) (A0 2) (A1 (A8 (AF 0) (A0 1) (A4 (A9 0) (A0 7) (AN (AX 0) m_len cw (A1 (A0 1) (A3 0))))) (A3 0))))))))))))) (A6 (AD (AZ (BJ 0) m_tuple fc (A1 (A0 2) (A3 0))))))))))),?_⟩;rw[show start ["deck","kinds","words","due","left","wide","cell","more","far","number"] [.ref d,.ref kt]=[some (.ref d),some (.ref kt),none,none,none,none,none,none,none,none] from rfl];clear hu hu0 nd hr;push_cast [and_true];¤sz:=sizeLine_eq;¶⟨Nat.zero_le _,λp hp=>?_⟩;¤npd:p≠d:=(ag hD.1 hp).symm;¶nh (b:=b) (ns:=ns) (n:=n) ⟨aa hp _ _ _ hD.1,aa hp _ _ _ hD.2⟩ ¥ λc0 H1 s1 d1=>?_;push_cast [pj];¶⟨rfl,by show (2:Nat)≤sizeLine;decide,λp1 hp1=>?_⟩;¤D0:cu (upd H p (.lst [])) d b ns n:=⟨aa hp _ _ _ hD.1,aa hp _ _ _ hD.2⟩;¤D1:=D0.next s1 d1
 ¤S1:aq d H H1:=(aq.of (aa hp _)).trans s1;¤hp1':H1 p=some (.lst []):=s1 p _ npd ae;£⟨L0,hL1,hL2,hat⟩:∃L0:Nat,1≤L0∧L0≤5∧atI [V.int (1+c0 % 4),V.int 5] (if c0 / 4 % 8=3 then 1 else 0)=some (.int (L0:Int)):=by
  ¤a0:0≤c0 % 4:=Int.emod_nonneg _ (by decide);¦e:c0 / 4 % 8=3
  ·rw[if_pos e];§⟨5,by decide,by decide,rfl⟩
  ·rw[if_neg e];§⟨(1+c0 % 4).toNat,¥,¥,(show atI [V.int (1+c0 % 4),V.int 5] 0=some (V.int (1+c0 % 4)) from rfl).trans (by rw[show (((1+c0 % 4).toNat:Nat):Int)=1+c0 % 4 by ¡])⟩
 ¶ao ae hat ?_;¤S2:=S1.upd (S1.free d1 hp1) (.lst [V.int (1+c0 % 4),V.int 5]);¤d2:=aa hp1 (.lst [V.int (1+c0 % 4),V.int 5]) _ _ d1;¤p2:=aa hp1 (.lst [V.int (1+c0 % 4),V.int 5]) _ _ hp1';generalize upd H1 p1 (.lst [V.int (1+c0 % 4),V.int 5])=H2 at S2 d2 p2 ⊢;£⟨P1,eP1⟩:∃P1:L2.St→Hp→Prop,∀σ H',P1 σ H'↔∃(ws:List V) (due left:Nat) (v6 v7 v8 v9:Option V),σ=[some (.ref d),some (.ref kt),some (.ref p),some (.int (due:Int)),some (.int (left:Int)),some (.bl (decide (c0 / 4 % 8=3))),v6,v7,v8,v9]∧aq d H H'∧H' d=some (.lst [.ref b,.int ((n+1+ws.length:Nat):Int)])∧H' p=some (.lst ws)∧(∀v∈ws,isW v)∧pend 1 (ws.map arV)=some due∧ws.length+due+2*left≤11∧(ws.filter λv=>!inV v (kinds.map V.str)).length+left≤5:=⟨_,λ_ _=>Iff.rfl⟩;¶kj P1 (λσ H'=>11 - rh H' p) ?_ ?_ ?_
 ·§(eP1 _ _).mpr ⟨[],1,L0,none,none,none,none,rfl,S2,d2,p2,(λ_ h=>nomatch h),rfl,by show 0+1+2*L0≤11;¡,by show 0+L0≤5;¡⟩
 ·intro σ H' hh;¶ob7 ((eP1 _ _).mp hh) λws due left v6 v7 v8 v9 hh=>?_;¤hS:=hh.2.1;¤hD':=hh.2.2.1;¤hp':=hh.2.2.2.1;¤hw:=hh.2.2.2.2.1;¤hpd:=hh.2.2.2.2.2.1;¤hr:=hh.2.2.2.2.2.2.1;¤hfew:=hh.2.2.2.2.2.2.2;£rfl:=hh.1;clear hh;push_cast [and_true];¤hDk:cu H' d b ns (n+1+ws.length):=hD.next hS hD'
  ¶bu (λhdue=>nh hDk ¥ λc H3 s3 d3=>?_) λhdue=>?_
  ·push_cast [pj,CPow];¤p3:H3 p=some (.lst ws):=s3 p _ npd hp';¤k3:H3 kt=some (.tup (kinds.map V.str)):=(hS.trans s3) kt _ (df hK hD.1 (by ¿e;cases e)) hK;¤app:∀(v:V) (H4:Hp) (dd:Int) (left':Nat),isW v→dd=(due:Int) - 1+(arV v:Int)→ws.length+due+arV v+2*left'≤11→(left'+1=left∨(left'=left∧inV v (kinds.map V.str)=true))→ak H3 H4→
     ∀w6 w7 w8 w9,qa (.ref p) [v] H4 λ_ H5=>P1 [some (.ref d),some (.ref kt),some (.ref p),some (.int dd),some (.int (left':Int)),some (.bl (decide (c0 / 4 % 8=3))),w6,w7,w8,w9] H5∧11 - rh H5 p < 11 - rh H' p:=by
    ¿v H4 dd left' hv hdd hroom hlf s4 w6 w7 w8 w9;¤p4:=s4 _ _ p3;¶⟨p,ws,v,rfl,rfl,p4,¥,(eP1 _ _).mpr ⟨ws++[v],due - 1+arV v,left',w6,w7,w8,w9,by rw[show dd=((due - 1+arV v:Nat):Int) by ¡],(hS.trans (s3.trans (aq.of s4))).upd hp _,?_,ae,λx hx=>?_,?_,?_,?_⟩,?_⟩
    ·rw[af npd.symm,List.length_append];§s4 _ _ d3
    ·rcases List.mem_append.mp hx with h | h
     ·§hw x h
     ·rw[List.mem_singleton.mp h];§hv
    ·rw[List.map_append];§xw _ _ _ _ hpd ¥
    ·rw[List.length_append,List.length_singleton];¡
    ·rw[List.filter_append,List.length_append];rcases hlf with h | ⟨h,hin⟩
     ·have:([v].filter λv=>!inV v (kinds.map V.str)).length≤1:=List.length_filter_le _ _;¡
     ·have:[v].filter (λv=>!inV v (kinds.map V.str))=[]:=by rw[List.filter_cons,hin];rfl
      rw[this,List.length_nil];¡
    ·rw[n0 ae,n0 hp',List.length_append,List.length_singleton];¡
   ¶bu (λl0=>bu (λa1=>⟨av p3,by show (4:Nat)≤sizeLine;decide,λp4 hp4=>?_⟩) λa1=>bu (λ_=>⟨rfl,bu (λe3=>?_) λe3=>?_⟩) λnl=>absurd l0 nl) λnl=>bu (λl0=>absurd l0 nl) λ_=>?_
   ·£⟨y,hy,hw2,ha2⟩:∃y,atI [V.str (Str.ofString "add"),V.str (Str.ofString "sub"),V.str (Str.ofString "mul"),V.str (Str.ofString "neg")] (c / 5 % 4)=some y∧isW y∧((due:Int)+if c / 5 % 4 < 3 then 1 else 0)=(due:Int) - 1+(arV y:Int):=by
     rcases (show c / 5 % 4=((0:Nat):Int)∨c / 5 % 4=((1:Nat):Int)∨c / 5 % 4=((2:Nat):Int)∨c / 5 % 4=((3:Nat):Int) by ¡) with e | e | e | e
     ·rw[e];§⟨_,bo rfl,⟨Sum.inr _,rfl⟩,by rw[show arV (.str (Str.ofString "add"))=2 by decide+kernel,if_pos (by decide)];¡⟩
     ·rw[e];§⟨_,bo rfl,⟨Sum.inr _,rfl⟩,by rw[show arV (.str (Str.ofString "sub"))=2 by decide+kernel,if_pos (by decide)];¡⟩
     ·rw[e];§⟨_,bo rfl,⟨Sum.inr _,rfl⟩,by rw[show arV (.str (Str.ofString "mul"))=2 by decide+kernel,if_pos (by decide)];¡⟩
     ·rw[e];§⟨_,bo rfl,⟨Sum.inr _,rfl⟩,by rw[show arV (.str (Str.ofString "neg"))=1 from Am,if_neg (by decide)];¡⟩
    ¤ar2:=uw y;£⟨l',rfl⟩:∃l',left=l'+1:=⟨left - 1,¥⟩;rw[show ((l'+1:Nat):Int) - 1=(l':Int) by ¡];§ao ae hy (app y _ _ l' hw2 ha2 ¥ (.inl rfl) (aa hp4 _) _ _ _ _)
   ·£⟨l',rfl⟩:∃l',left=l'+1:=⟨left - 1,¥⟩;rw[show ((l'+1:Nat):Int) - 1=(l':Int) by ¡];¶⟨by decide,by decide,by decide,by show (6:Nat)≤sizeLine;decide,λp4 hp4=>?_⟩;£⟨f1,hf1,hm1⟩:=b7 [V.int 3,V.int 7,V.int 41,V.int (10 ^ Int.toNat 3),V.int (10 ^ Int.toNat 9),V.int (10 ^ Int.toNat 29)] (c / 5 / 18 % 6) (Int.emod_nonneg _ (by decide)) (by show c / 5 / 18 % 6 < 6;¡);£⟨i1,rfl⟩:∃i,f1=V.int i:=by
     simp only[List.mem_cons,List.not_mem_nil,or_false] at hm1;rcases hm1 with rfl | rfl | rfl | rfl | rfl | rfl <;> §⟨_,rfl⟩
    ¶ao ae hf1 ⟨by show (6:Nat)≤sizeLine;decide,λp5 hp5=>?_⟩;£⟨f2,hf2,hm2⟩:=b7 [V.int 0,V.int 2,V.int (-1),V.int 5,V.int i1,V.int (0 - i1)] (c / 5 / 3 % 6) (Int.emod_nonneg _ (by decide)) (by show c / 5 / 3 % 6 < 6;¡);£⟨i2,rfl⟩:∃i,f2=V.int i:=by
     simp only[List.mem_cons,List.not_mem_nil,or_false] at hm2;rcases hm2 with rfl | rfl | rfl | rfl | rfl | rfl <;> §⟨_,rfl⟩
    ¤s5:=(aa hp4 (.lst [V.int 3,V.int 7,V.int 41,V.int (10 ^ Int.toNat 3),V.int (10 ^ Int.toNat 9),V.int (10 ^ Int.toNat 29)])).trans (aa hp5 (.lst [V.int 0,V.int 2,V.int (-1),V.int 5,V.int i1,V.int (0 - i1)]));¶ao ae hf2 ⟨av (s5 _ _ p3),by show (3:Nat)≤sizeLine;decide,λp6 hp6=>?_⟩;£⟨f3,hf3,hm3⟩:=b7 [V.str (Str.ofString "any"),V.str (Str.ofString "var"),V.int i2] (c / 5 % 3) (Int.emod_nonneg _ (by decide)) (by show c / 5 % 3 < 3;¡);£⟨t3,a3⟩:isW f3∧arV f3=0:=by
     simp only[List.mem_cons,List.not_mem_nil,or_false] at hm3;rcases hm3 with rfl | rfl | rfl
     ·§⟨⟨Sum.inr _,rfl⟩,wk⟩
     ·§⟨⟨Sum.inr _,rfl⟩,ui⟩
     ·§⟨⟨Sum.inl _,rfl⟩,rfl⟩
    §ao ae hf3 (app f3 _ ((due:Int) - 1) l' t3 (by rw[a3];¡) (by rw[a3];¡) (.inl rfl) (s5.trans (aa hp6 _)) _ _ _ _)
   ·¤hm:=b7 (kinds.map V.str) (c / 5 % (((kinds.map V.str).length:Nat):Int)) (Int.emod_nonneg _ (by rw[List.length_map];¡)) (Int.emod_lt_of_pos _ (by rw[List.length_map];¡));£⟨y,hy,hym⟩:=hm;£⟨z,hz,rfl⟩:=List.mem_map.mp hym;¤a0:arV (.str z)=0:=(hk z hz).1;¤kn:inV (.str z) (kinds.map V.str)=true:=t8 hym;§⟨av p3,_,.inr (SqT.of k3),by rw[List.length_map];¡,au k3 hy (app (.str z) H3 ((due:Int) - 1) left ⟨Sum.inr z,rfl⟩ (by rw[a0];¡) (by rw[a0];¡) (.inr ⟨rfl,kn⟩) (ak.refl _) _ _ _ _)⟩
   ·¤hm:=b7 (kinds.map V.str) (c / 5 % (((kinds.map V.str).length:Nat):Int)) (Int.emod_nonneg _ (by rw[List.length_map];¡)) (Int.emod_lt_of_pos _ (by rw[List.length_map];¡));£⟨y,hy,hym⟩:=hm;£⟨z,hz,rfl⟩:=List.mem_map.mp hym;¤a0:arV (.str z)=0:=(hk z hz).1;¤kn:inV (.str z) (kinds.map V.str)=true:=t8 hym;§⟨av p3,_,.inr (SqT.of k3),by rw[List.length_map];¡,au k3 hy (app (.str z) H3 ((due:Int) - 1) left ⟨Sum.inr z,rfl⟩ (by rw[a0];¡) (by rw[a0];¡) (.inr ⟨rfl,kn⟩) (ak.refl _) _ _ _ _)⟩
  ·¤d0:due=0:=by ¡
   subst d0;¶⟨ws,.inl ⟨SqL.of hp',λt ht=>?_⟩⟩;¤htn:=hS.free hD' ht;§q t (n+1+ws.length) _ ws (hS.upd htn _) (by rw[af (ag hD' ht)];§hD') ¥ htn ae ⟨hw,hpd,¥,¥⟩
 ·intro σ H' Q1 Q2 hq h;simp only[Cp,tOp,rI0,ja,tC,j6,jv,tB] at h ⊢;£⟨v,hv,i,j,e1,e2,k,e3,h⟩:=h;§⟨v,hv,i,j,e1,e2,k,e3,hq _ _ h⟩
noncomputable abbrev mn:Stmt:=top 21
theorem Fo:az ["kinds","shape","stack","deeds","free","back","at","word","count","read","turn","box"] ["kinds","shape"] (ah mn):=⟨rfl,rfl,rfl,by decide+kernel,rfl,by decide+kernel,by decide+kernel⟩
theorem Kw (G:Gs w K mg) (D:Def K mg "_law_deeds" mn ["kinds","shape"]):Has P w K mg base (k+1) "_law_deeds" ["kinds","shape"] (tj K):=by
 ¶D.has Fo (λvs H Q E h=>?_) (λf cdv A outer s H vs Q E hr h=>?_)
 ·£⟨_,_,_,_,rfl,_,_,_,_,_⟩:=h;rfl
 ¤nd:=Fo.nd;¤hu:=b9 hr;¤hu0:=Nat.lt_of_succ_lt hu;£⟨kt,st,kinds,sh,rfl,hK,hS,hk,ok,q⟩:=h;¤m_int:=G.m_int;¤m_isinstance:=G.m_isinstance;¤m_len:=G.m_len;¤m_range:=G.m_range;¤m_str:=G.m_str;¤m_tuple:=G.m_tuple;¶⟨_,(A5 (A7 2 nd (AC (A3 0))) (A5 (A7 3 nd (AC (A3 0))) (A5 (A7 4 nd (AC (BF (AH (AH (AH (BG 0))))))) (A5 (AY (BP m_range (A1 (AN (AX 0) m_len cw (A1 (A0 1) (A3 0))) (A3 0))) (AJ 5 nd (by first | §Or.inl rfl | §Or.inr rfl)) (A5 (A7 6 nd (A4 (B0 0) (A4 (B0 0) (AN (AX 0) m_len cw (A1 (A0 1) (A3 0))) (A2 0)) (A0 5))) (A5 (C0 7 nd (A8 (AF 0) (A0 1) (A0 6))) (A5 (A7 8 nd (AZ (@zt _) m_str Gd (A1 (AN (AX 0) m_len cw (A1 (BU (BL ["one"] ["word","kinds"] [7,0] (And.intro rfl (And.intro rfl trivial)) (And.intro (And.intro rfl (And.intro rfl rfl)) (And.intro (And.intro rfl (And.intro rfl rfl)) trivial))) (BW (B6 (@ik _) (A0 1) (B7 0) (B9 (A4 (AK 0) (A0 6) (A2 0))))) (λ_ _ _=>(BE 0 (show List.Nodup (["one","word","kinds"]:List Str) by decide+kernel))) (λ_ _ _=>(@pif1 _ _ _ (BA (BY (AB (AR 0) (A0 0) (AO 1) (AA 0)) (C3 (BA (BK (BH (@nr _ K rfl) (AO 1) (AO 2)) (BM (BH (@nr _ K rfl) (A0 0) (AO 2)))))))))) (λ_ _ _=>(A0 0))) (A3 0))) (A3 0)))) (A5 (AE (BH (BR 0) (AO 7) (AO 0)) (A5 (AS (AU PySem.F.plainAttrs_list PySem.F.slot_list_append PySem.F.type_list_append (AV 0) (A0 2) (A1 (A4 (BQ 0) (AL 0) (A0 8)) (A3 0)))) (A6 (@Cu _ _))) (AT 0)) (A5 (A7 9 nd (AC (A3 0))) (A5 (AY (BP m_range (A1 (A4 (AK 0) (AZ (@gx _) m_int um (A1 (@Af _ _ _ _ _ _ _ _ (BR 0) (AO 7) (AC (BF (AH (AH (AH (AH (BG 0))))))) (by with_unfolding_all rfl)) (A3 0))) (AZ (@gx _) m_int um (A1 (@Af _ _ _ _ _ _ _ _ (BR 0) (AO 7) (AC (BF (AH (AH (AH (BG 0)))))) (by with_unfolding_all rfl)) (A3 0)))) (A3 0))) (AJ 10 nd (by first | §Or.inl rfl | §Or.inr rfl)) (A6 (AS (AU PySem.F.plainAttrs_list PySem.F.slot_list_append PySem.F.type_list_append (AV 0) (A0 9) (A1 (C9 PySem.F.plainAttrs_list PySem.F.slot_list_pop PySem.F.type_list_pop (@za _) (A0 2)) (A3 0)))))) (A5 (AS (AU PySem.F.plainAttrs_list PySem.F.slot_list_extend PySem.F.type_list_extend (@yd _) (A0 4) (A1 (BU (BL ["box"] [] [] trivial trivial) (BD (A0 9)) (λ_ _ _=>(BE 0 (show List.Nodup (["box"]:List Str) by decide+kernel))) (λ_ _ _=>(@pif1 _ _ _ (AB (AR 0) (A8 (@ka _) (A0 0) (A2 0)) (AL 0) (AA 0)))) (λ_ _ _=>(A0 0))) (A3 0)))) (A5 (A7 11 nd (AL 0)) (BI (AE (AB (@jd _) (A0 6) (A2 0) (AA 0)) (A6 (A7 11 nd (C9 PySem.F.plainAttrs_list PySem.F.slot_list_pop PySem.F.type_list_pop (@za _) (A0 4)))) (AT 0)) (BI (AE (AB (AR 0) (AO 7) (AL 0) (AA 0)) (A6 (AS (AU PySem.F.plainAttrs_list PySem.F.slot_list_append PySem.F.type_list_append (AV 0) (A0 3) (A1 (AI (A1 (AL 0) (A1 (A0 11) (A1 (A4 (BQ 0) (AL 0) (A0 8)) (A3 0))))) (A3 0))))) (A6 (AE (AB (AR 0) (AO 7) (AL 0) (AA 0)) (A6 (AS (AU PySem.F.plainAttrs_list PySem.F.slot_list_append PySem.F.type_list_append (AV 0) (A0 3) (A1 (AI (A1 (AL 0) (A1 (A0 11) (A1 (A4 (BQ 0) (AL 0) (A0 8)) (A3 0))))) (A3 0))))) (A6 (AE (BX (AN (C1 0) m_isinstance dr (A1 (AO 7) (A1 (C2 m_int um) (A3 0))))) (A6 (AS (AU PySem.F.plainAttrs_list PySem.F.slot_list_append PySem.F.type_list_append (AV 0) (A0 3) (A1 (AI (A1 (AL 0) (A1 (A0 11) (A1 (AO 7) (A3 0))))) (A3 0))))) (A6 (AS (AU PySem.F.plainAttrs_list PySem.F.slot_list_append PySem.F.type_list_append (AV 0) (A0 3) (A1 (A4 (@ua _) (AI (A1 (AO 7) (A1 (A0 11) (A3 0)))) (AZ (BJ 0) m_tuple fc (A1 (A0 9) (A3 0)))) (A3 0)))))))))) (A6 (AS (AU PySem.F.plainAttrs_list PySem.F.slot_list_append PySem.F.type_list_append (AV 0) (A0 2) (A1 (A0 11) (A3 0)))))))))))))))) (A5 (AE (AB (AR 0) (AN (AX 0) m_len cw (A1 (A0 3) (A3 0))) (A2 0) (AA 0)) (A6 (AD (AI (A1 (AI (BF (AH (AH (BV (BG 0)))))) (A1 (AI (BF (AH (AH (AH (AH (BG 0))))))) (A3 0)))))) (AT 0)) (A6 (AD (AZ (BJ 0) m_tuple fc (A1 (A0 3) (A3 0)))))))))),?_⟩;rw[show start ["kinds","shape","stack","deeds","free","back","at","word","count","read","turn","box"] [.ref kt,.ref st]=[some (.ref kt),some (.ref st),none,none,none,none,none,none,none,none,none,none] from rfl];clear hu hu0 nd hr;push_cast [and_true];¤sz:=sizeLine_eq;¤hlen:=ok.len;¶⟨Nat.zero_le _,λsp h1=>⟨Nat.zero_le _,λdp h2=>⟨by show (3:Nat)≤sizeLine;decide,λfp h3=>?_⟩⟩⟩;¤nsd:sp≠dp:=ag ae h2;¤nsf:sp≠fp:=ag (aa h2 _ _ _ ae) h3;¤ndf:dp≠fp:=ag ae h3;¤S1:=aa h1 (.lst []);¤fd:=S1.free h2;¤S2:=S1.trans (aa h2 (.lst []));¤ff:=S2.free h3;¤S3:=S2.trans (aa h3 (.lst [V.str (Str.ofString "t3"),V.str (Str.ofString "t2"),V.str (Str.ofString "t1")]));¤z3:=aa h3 (.lst [V.str (Str.ofString "t3"),V.str (Str.ofString "t2"),V.str (Str.ofString "t1")]) _ _ (aa h2 (.lst []) _ _ (ae (H:=H) (a:=sp) (o:=.lst [])));¤d3:=aa h3 (.lst [V.str (Str.ofString "t3"),V.str (Str.ofString "t2"),V.str (Str.ofString "t1")]) _ _ (ae (H:=upd H sp (.lst [])) (a:=dp) (o:=.lst []));¤f3:upd (upd (upd H sp (.lst [])) dp (.lst [])) fp (.lst [V.str (Str.ofString "t3"),V.str (Str.ofString "t2"),V.str (Str.ofString "t1")]) fp=some (.lst ([Str.ofString "t3",Str.ofString "t2",Str.ofString "t1"].map V.str)):=ae;generalize upd (upd (upd H sp (.lst [])) dp (.lst [])) fp (.lst [V.str (Str.ofString "t3"),V.str (Str.ofString "t2"),V.str (Str.ofString "t1")])=H3 at S3 z3 d3 f3 ⊢;¶⟨sh,.inr (SqT.of (S3 _ _ hS)),¥,¥,?_⟩;rw[show ((sh.length:Nat):Int).toNat=sh.length by ¡];£⟨P1,eP1⟩:∃P1:Nat→L2.St→Hp→Prop,∀j σ H',P1 j σ H'↔∃(zs fs:List Str) (ds:List V) (v5 v6 v7 v8 v9 v10 v11:Option V),σ=[some (.ref kt),some (.ref st),some (.ref sp),some (.ref dp),some (.ref fp),v5,v6,v7,v8,v9,v10,v11]∧ak H H'∧H' sp=some (.lst (zs.map V.str))∧H' dp=some (.lst ds)∧H' fp=some (.lst (fs.map V.str))∧ds.length≤j∧DI kinds sh (sh.length - j) zs fs:=⟨_,λ_ _ _=>Iff.rfl⟩;¶fh (lo:=0) P1 ((eP1 _ _ _).mpr ⟨[],_,[],none,none,none,none,none,none,none,rfl,S3,z3,d3,f3,Nat.le_refl _,DI.start ok⟩) ?_ ?_
 ·¿j σ H5 hj hh;¶ob10 ((eP1 _ _ _).mp hh) λzs fs ds v5 v6 v7 v8 v9 v10 v11 hh=>?_;¤s5:=hh.2.1;¤z5:=hh.2.2.1;¤d5:=hh.2.2.2.1;¤f5:=hh.2.2.2.2.1;¤hdl:=hh.2.2.2.2.2.1;¤di:=hh.2.2.2.2.2.2;£rfl:=hh.1;clear hh;£⟨p,hp⟩:∃p,p+j+1=sh.length:=⟨sh.length - 1 - j,¥⟩;rw[show sh.length - j=p+1 by ¡] at di;¤ej:(λ_:Unit=>sh.length - (j+1))=λ_=>p:=by funext _;¡
  ¤hpl:p < sh.length:=by ¡
  ¤hv:sh[p]?=some sh[p]:=List.getElem?_eq_getElem hpl;¤hvw:=ok.w _ (List.getElem_mem hpl);¤hat:atI sh (p:Int)=some sh[p]:=bo hv;generalize sh[p]=v at hv hvw hat;¤fl:(kinds.map V.str).all ij=true:=List.all_eq_true.mpr λx hx=>by £⟨z,_,rfl⟩:=List.mem_map.mp hx;rfl
  ¤zll:=Gj _ _ di.pd;rw[List.length_map,List.length_drop] at zll;push_cast [and_true];¶⟨sh,.inr (SqT.of (s5 _ _ hS)),?_⟩;rw[show ((sh.length:Int) - 1 - (0+(j:Int)))=(p:Int) by ¡];¶au (s5 _ _ hS) hat (Oz (s5 _ _ hS) λa H6 s6 h6=>⟨a,rfl,⟨_,SqT.of h6⟩,λD hD=>?_⟩);¤e6:(p:Int)+1=((p+1:Nat):Int):=by ¡
  rw[e6,kh sh (p+1) ¥] at h6;¤S6:=s5.trans s6;¶Dd (λi ys=>True) (SqT.of h6) (by rw[List.length_take];¡) hD trivial (λi x ys H1 G' K' hx hP hl2 hS' hG hK'=>?_) λys H7 hP hl2 s7 hD2=>?_
  ·¤hxw:=ok.w x (List.mem_of_mem_take (List.mem_of_getElem? hx));¤kk:=SqT.of (K:=K) (hS' _ _ (S6 _ _ hK));push_cast [rIn];§⟨hxw.sc2 hvw,bu (λ_=>hK' _ _ (ak.refl _) trivial) λ_=>⟨_,.inr kk,hvw.flat,fl,bu (λ_=>⟨_,.inr kk,hxw.flat,fl,bu (λ_=>hK' _ _ (ak.refl _) trivial) λ_=>hG _ (ak.refl _) trivial⟩) λ_=>hG _ (ak.refl _) trivial⟩⟩
  rw[List.length_take] at hl2;¤S7:=S6.trans s7;¤z7:=s7 _ _ (s6 _ _ z5);¤d7:=s7 _ _ (s6 _ _ d5);¤f7:=s7 _ _ (s6 _ _ f5);£⟨tx1,tx2⟩:=Dw (n:=ys.length) ¥;¶⟨ys,.inl (SqL.of hD2),tx2,kt,_,rfl,.inr (SqT.of (S7 _ _ hK)),hvw.flat,fl,?_⟩;generalize Gk (V.int (ys.length:Int))=tx at tx1 ⊢;clear hD hD2 hl2 tx2 s7 s6 h6 S6 hP;rw[show ∀x y:Bool,(if false=true then x else y)=y from λ_ _=>rfl];¤h1l:(Str.ofString "h").length=1:=by decide+kernel
  cases hin:inV v (kinds.map V.str) with
  | true=>
   ¶ifY rfl ?_;¶⟨av z7,¥,(bb (K:=K) z7 (by rw[List.length_map];¡) ?_).2⟩;push_cast [tCont];§(eP1 _ _ _).mpr ⟨zs++[Str.ofString "h"++tx],fs,ds,_,_,_,_,_,_,_,rfl,S7.upd h1 _,by rw[ae,List.map_append];rfl,by rw[af nsd.symm];§d7,by rw[af nsf.symm];§f7,¥,by rw[show sh.length - (j+1)=p from congrFun ej ()];§di.hole hv (Qd hk hvw hin) (isT_h tx) (by rw[Str.length_append,h1l];¡)⟩
  | false=>
   ¶ifN Bool.false_ne_true ?_;push_cast [and_true];¶⟨Nat.zero_le _,λrp hrp=>⟨by show (4:Nat)≤sizeLine;decide,λp1 hp1=>⟨p1,_,rfl,.inl (SqL.of ae),hvw.flat,rfl,by show (3:Nat)≤sizeLine;decide,λp2 hp2=>⟨p2,_,rfl,.inl (SqL.of ae),hvw.flat,rfl,?_⟩⟩⟩⟩;dsimp only;rw[show ∀x y:Bool,(if false=true then x else y)=y from λ_ _=>rfl,show ∀x y:Bool,(if false=true then x else y)=y from λ_ _=>rfl];¤oc:=Hm hvw;rw[show ((if inV v [V.str (Str.ofString "add"),V.str (Str.ofString "sub"),V.str (Str.ofString "mul"),V.str (Str.ofString "neg")]=true then (1:Int) else 0)+if inV v [V.str (Str.ofString "add"),V.str (Str.ofString "sub"),V.str (Str.ofString "mul")]=true then 1 else 0)=(arV v:Int) from oc];¤ar2:=uw v;¶⟨¥,¥,?_⟩;rw[show ((arV v:Nat):Int).toNat=arV v by ¡];¤frp:=S7.free hrp;¤nrs:rp≠sp:=(ag z7 hrp).symm;¤nrd:rp≠dp:=(ag d7 hrp).symm;¤nrf:rp≠fp:=(ag f7 hrp).symm;¤q8:=(aa hrp (.lst [])).trans ((aa hp1 (.lst [V.str (Str.ofString "add"),V.str (Str.ofString "sub"),V.str (Str.ofString "mul"),V.str (Str.ofString "neg")])).trans (aa hp2 (.lst [V.str (Str.ofString "add"),V.str (Str.ofString "sub"),V.str (Str.ofString "mul")])));¤r8:=aa hp2 (.lst [V.str (Str.ofString "add"),V.str (Str.ofString "sub"),V.str (Str.ofString "mul")]) _ _ (aa hp1 (.lst [V.str (Str.ofString "add"),V.str (Str.ofString "sub"),V.str (Str.ofString "mul"),V.str (Str.ofString "neg")]) _ _ (ae (H:=H7) (a:=rp) (o:=.lst [])));¤S8:=S7.trans q8;¤z8:=q8 _ _ z7;¤d8:=q8 _ _ d7;¤f8:=q8 _ _ f7;generalize upd (upd (upd H7 rp (.lst [])) p1 (.lst [V.str (Str.ofString "add"),V.str (Str.ofString "sub"),V.str (Str.ofString "mul"),V.str (Str.ofString "neg")])) p2 (.lst [V.str (Str.ofString "add"),V.str (Str.ofString "sub"),V.str (Str.ofString "mul")])=H8 at q8 r8 S8 z8 d8 f8 ⊢;£⟨hale,_,_,_⟩:=di.less hv;£⟨P2,eP2⟩:∃P2:Nat→L2.St→Hp→Prop,∀k σ H',P2 k σ H'↔∃v10:Option V,σ=[some (.ref kt),some (.ref st),some (.ref sp),some (.ref dp),some (.ref fp),some (.int (0+(j:Int))),some (.int (p:Int)),some v,some (.str tx),some (.ref rp),v10,v11]∧ak H H'∧H' sp=some (.lst ((zs.take (zs.length - k)).map V.str))∧H' rp=some (.lst ((zs.drop (zs.length - k)).reverse.map V.str))∧H' dp=some (.lst ds)∧H' fp=some (.lst (fs.map V.str)):=⟨_,λ_ _ _=>Iff.rfl⟩;¶fh (lo:=0) P2 ?_ ?_ ?_
   ·¶(eP2 _ _ _).mpr ⟨v10,rfl,S8,?_,?_,d8,f8⟩
    ·rw[Nat.sub_zero,List.take_length];§z8
    ·rw[Nat.sub_zero,List.drop_length];§r8
   ·¿k σ H9 hk9 hh;£⟨w10,hh⟩:=(eP2 _ _ _).mp hh;¤s9:=hh.2.1;¤z9:=hh.2.2.1;¤r9:=hh.2.2.2.1;¤d9:=hh.2.2.2.2.1;¤f9:=hh.2.2.2.2.2;£rfl:=hh.1;clear hh;push_cast [and_true];£⟨m,hm⟩:∃m,m+1=zs.length - k:=⟨zs.length - k - 1,¥⟩;rw[←hm] at z9 r9;¤ek:(λ_:Unit=>zs.length - (k+1))=λ_=>m:=by funext _;¡
    ¤hml:m < zs.length:=by ¡
    ¤et:zs.take (m+1)=zs.take m++[zs[m]]:=by rw[List.take_add_one,List.getElem?_eq_getElem hml];rfl
    ¤ed9:zs.drop m=zs[m]::zs.drop (m+1):=List.drop_eq_getElem_cons hml;rw[et,List.map_append] at z9;¶⟨av r9,Ac z9 (bb (K:=K) (by rw[af nrs];§r9) (by rw[List.length_map,List.length_reverse,List.length_drop];¡) ((eP2 _ _ _).mpr ⟨_,rfl,(s9.upd h1 _).upd frp _,by rw[show zs.length - (k+1)=m from congrFun ek (),af nrs.symm,ae],?_,by rw[af nrd.symm,af nsd.symm];§d9,by rw[af nrf.symm,af nsf.symm];§f9⟩)).2⟩;rw[show zs.length - (k+1)=m from congrFun ek (),ae,ed9,List.reverse_cons,List.map_append];rfl
   ·intro σ H9 hh;£⟨w10,hh⟩:=(eP2 _ _ _).mp hh;¤s9:=hh.2.1;¤z9:=hh.2.2.1;¤r9:=hh.2.2.2.1;¤d9:=hh.2.2.2.2.1;¤f9:=hh.2.2.2.2.2;£rfl:=hh.1;clear hh;£⟨rd,hrd⟩:∃rd,rd=zs.drop (zs.length - arV v):=⟨_,rfl⟩;£⟨zs0,hz0⟩:∃zs0,zs0=zs.take (zs.length - arV v):=⟨_,rfl⟩;rw[←hrd] at r9;rw[←hz0] at z9;¤ezs:zs=zs0++rd:=by rw[hrd,hz0,List.take_append_drop]
    ¤rdl:rd.length=arV v:=by rw[hrd,List.length_drop];¡
    £⟨dp1,dp2,dp3⟩:=di.put hk ok hv hin ezs rdl;push_cast [and_true];¶⟨av f9,⟨_,SqL.of r9⟩,λD hD=>?_⟩;¶Qo (λi ys=>ys=((rd.reverse.take i).filter isT).map V.str) (SqL.of r9) (by rw[List.length_map,List.length_reverse];¡) hD rfl (λi x ys H1 G' K' hx hP hl2 hS' hG hK'=>?_) λys H10 hP hl2 s10 hD2=>?_
    ·rw[List.getElem?_map] at hx;£⟨z,hz,rfl⟩:=Option.map_eq_some_iff.mp hx;¤hzr:z∈rd:=List.mem_reverse.mp (List.mem_of_getElem? hz);£⟨zl1,zl2⟩:=di.zl z (by rw[ezs];§List.mem_append_right _ hzr);£⟨c,hc,hct⟩:=M8 zl1;¤tk:rd.reverse.take (i+1)=rd.reverse.take i++[z]:=by rw[List.take_add_one,hz];rfl
     push_cast [rIxS];¶⟨¥,c,hc,rfl,bu (λe=>hK' _ _ (ak.refl _) ?_) λe=>hG _ (ak.refl _) ?_⟩
     ·¤e':isT z=true:=hct.mp (by rw[e]);rw[tk,List.filter_append,List.map_append,hP,List.filter_cons,e'];rfl
     ·¤e':isT z=false:=Bool.eq_false_iff.mpr λe2=>e (V.str.inj (hct.mpr e2));rw[tk,List.filter_append,List.map_append,hP,List.filter_cons,e'];show _=_++[]
      rw[List.append_nil]
    ·rw[List.length_map,List.take_length] at hP;£⟨gs,hgs⟩:∃gs,gs=rd.reverse.filter isT:=⟨_,rfl⟩;rw[←hgs] at hP;¤gl:gs.length=tc rd:=by rw[hgs];unfold tc;rw[List.filter_reverse,List.length_reverse]
     ¤gt:∀y∈gs,isT y=true∧1≤y.length∧y.length≤100:=λy hy=>by
      rw[hgs] at hy;£⟨y1,y2⟩:=List.mem_filter.mp hy;§⟨y2,di.zl y (by rw[ezs];§List.mem_append_right _ (List.mem_reverse.mp y1))⟩
     ¤tl:tc rd≤rd.length:=List.length_filter_le _ _;¤fl3:fs.length≤3:=by have:=di.three;¡
     subst hP;¶⟨fp,D,fs.map V.str,gs.map V.str,rfl,rfl,s10 _ _ f9,hD2,by rw[List.length_map,List.length_map];¡,?_⟩;¤S11:=(s9.trans s10).upd ff (.lst (fs.map V.str++gs.map V.str));¤z11:upd H10 fp (.lst (fs.map V.str++gs.map V.str)) sp=some (.lst (zs0.map V.str)):=by rw[af nsf];§s10 _ _ z9
     ¤r11:upd H10 fp (.lst (fs.map V.str++gs.map V.str)) rp=some (.lst (rd.reverse.map V.str)):=by rw[af nrf];§s10 _ _ r9
     ¤d11:upd H10 fp (.lst (fs.map V.str++gs.map V.str)) dp=some (.lst ds):=by rw[af ndf];§s10 _ _ d9
     ¤f11:upd H10 fp (.lst (fs.map V.str++gs.map V.str)) fp=some (.lst ((fs++gs).map V.str)):=by rw[ae,List.map_append]
     generalize upd H10 fp (.lst (fs.map V.str++gs.map V.str))=H11 at S11 z11 r11 d11 f11 ⊢;¤ft:∀y∈fs++gs,isT y=true∧1≤y.length∧y.length≤100:=λy hy=>by
      rcases List.mem_append.mp hy with g | g
      ·§di.fl y g
      ·§gt y g
     ¤fgl:(fs++gs).length=fs.length+tc rd:=by rw[List.length_append,gl]
     generalize fs++gs=fg at f11 ft fgl;¶fb (λσ' H12=>∃(box:Str) (fs2:List Str),σ'=[some (.ref kt),some (.ref st),some (.ref sp),some (.ref dp),some (.ref fp),some (.int (0+(j:Int))),some (.int (p:Int)),some v,some (.str tx),some (.ref rp),w10,some (.str box)]∧ak H H12∧H12 sp=some (.lst (zs0.map V.str))∧H12 rp=some (.lst (rd.reverse.map V.str))∧H12 dp=some (.lst ds)∧H12 fp=some (.lst (fs2.map V.str))∧DI kinds sh p (zs0++[box]) fs2) ?_ ?_
     ·push_cast [and_true];¶bu (λp0=>?_) λp0=>⟨S11,z11,r11,d11,fg,f11,dp2 _ fg fgl Nd (by decide+kernel) (by decide+kernel) ft⟩;¤ne:fg≠[]:=by
       ¿e;rw[e] at fgl;have:=dp3 ¥;simp at fgl;¡
      ¤ec:fg.dropLast++[fg.getLast ne]=fg:=List.dropLast_concat_getLast ne;rw[←ec,List.map_append] at f11;¤hb:=ft _ (List.getLast_mem ne);¤el:fg.dropLast.length+1=fg.length:=by rw[List.length_dropLast];have:=List.length_pos_iff.mpr ne;¡
      ¶Ac f11 ⟨_,rfl,S11.upd ff _,by rw[af nsf];§z11,by rw[af nrf];§r11,by rw[af ndf];§d11,fg.dropLast,ae,?_⟩;§dp1 _ _ ¥ hb.1 hb.2.1 hb.2.2 λy hy=>ft y ((List.dropLast_sublist fg).subset hy)
     rintro _ H12 ⟨box,fs2,rfl,s12,z12,r12,d12,f12,di12⟩;¤hbl:=di12.zl box (List.mem_append_right _ List.mem_cons_self);¶fb (λσ' H13=>∃ds2:List V,σ'=[some (.ref kt),some (.ref st),some (.ref sp),some (.ref dp),some (.ref fp),some (.int (0+(j:Int))),some (.int (p:Int)),some v,some (.str tx),some (.ref rp),w10,some (.str box)]∧ak H H13∧H13 sp=some (.lst (zs0.map V.str))∧H13 dp=some (.lst ds2)∧H13 fp=some (.lst (fs2.map V.str))∧ds2.length≤j+1) ?_ ?_
     ·push_cast [and_true];¤nl1:(Str.ofString "n").length=1:=by decide+kernel
      ¤vl1:(Str.ofString "v").length=1:=by decide+kernel
      ¤app:∀(y:V) (H':Hp),ak H12 H'→qa (.ref dp) [y] H' λ_ H1=>ak H H1∧H1 sp=some (.lst (zs0.map V.str))∧∃x:List V,H1 dp=some (.lst x)∧H1 fp=some (.lst (fs2.map V.str))∧x.length≤j+1:=λy H' s'=>
       (bb (K:=K) (s' _ _ d12) ¥ ⟨(s12.trans s').upd fd _,by rw[af nsd];§s' _ _ z12,ds++[y],ae,by rw[af ndf.symm];§s' _ _ f12,by rw[List.length_append,List.length_singleton];¡⟩).2
      ¶⟨hvw.sc _,bu (λ_=>⟨av d12,¥,by show (3:Nat)≤sizeLine;decide,λp3 hp3=>app _ _ (aa hp3 _)⟩) λ_=>⟨hvw.sc _,bu (λ_=>⟨av d12,¥,by show (3:Nat)≤sizeLine;decide,λp3 hp3=>app _ _ (aa hp3 _)⟩) λ_=>?_⟩⟩;£⟨k',rfl⟩:=hvw;cases k' with
      | inl i0=>§⟨_,.int i0,true,rfl,iteT ⟨av d12,by show (3:Nat)≤sizeLine;decide,λp3 hp3=>app _ _ (aa hp3 _)⟩⟩
      | inr z0=>§⟨_,.str z0,false,rfl,iteF ⟨av d12,by show (2:Nat)≤sizeLine;decide,λp3 hp3=>⟨_,.inl ⟨SqL.of (aa hp3 _ _ _ r12),λl hl=>oq (aa hl _ _ _ ae) ae (by rw[List.length_map,List.length_reverse];show 2+rd.length≤_;¡) λb H14 s14 h14=>app _ _ ((aa hp3 _).trans ((aa hl _).trans s14))⟩⟩⟩⟩
     ·rintro _ H13 ⟨ds2,rfl,s13,z13,d13,f13,hd13⟩;push_cast [and_true];¤z0l:zs0.length≤zs.length:=by rw[hz0,List.length_take];¡
      §bb z13 (by rw[List.length_map];¡) ((eP1 _ _ _).mpr ⟨zs0++[box],fs2,ds2,_,_,_,_,_,_,_,rfl,s13.upd h1 _,by rw[ae,List.map_append];rfl,by rw[af nsd.symm];§d13,by rw[af nsf.symm];§f13,hd13,by rw[show sh.length - (j+1)=p from congrFun ej ()];§di12⟩)
 ·intro σ H5 hh;¶ob10 ((eP1 _ _ _).mp hh) λzs fs ds v5 v6 v7 v8 v9 v10 v11 hh=>?_;¤s5:=hh.2.1;¤z5:=hh.2.2.1;¤d5:=hh.2.2.2.1;¤f5:=hh.2.2.2.2.1;¤hdl:=hh.2.2.2.2.2.1;¤di:=hh.2.2.2.2.2.2;£rfl:=hh.1;clear hh;push_cast [and_true];¶⟨ds,.inl (SqL.of d5),rfl,bu (λ_=>⟨by show (3:Nat)≤sizeLine;decide,λp1 hp1=>⟨by show (4:Nat)≤sizeLine;decide,λp2 hp2=>⟨by show (2:Nat)≤sizeLine;decide,λp3 hp3=>?_⟩⟩⟩) λ_=>⟨ds,.inl ⟨SqL.of d5,λl hl=>q l _ _ (s5.trans (aa hl _)) ae⟩⟩⟩;§q p3 _ _ (((s5.trans (aa hp1 _)).trans (aa hp2 _)).trans (aa hp3 _)) ae
noncomputable abbrev wg:Stmt:=top 22
theorem Lu:az ["deck","names","cell","many","drawn","kinds","first","shapes","k","one","shape","rules","kind","price","at"] ["deck","names"] (ah wg):=⟨rfl,rfl,rfl,by decide+kernel,rfl,by decide+kernel,by decide+kernel⟩
theorem Px (G:Gs w K mg) (h_law_deeds:Has P w K mg base k "_law_deeds" ["kinds","shape"] (tj K)) (h_law_next:Has P w K mg base k "_law_next" ["deck"] gn) (h_law_shape:Has P w K mg base k "_law_shape" ["deck","kinds"] tf) (D:Def K mg "_law_book" wg ["deck","names"]):Has P w K mg base (k+1) "_law_book" ["deck","names"] y4:=by
 ¶D.has Lu (λvs H Q E h=>?_) (λf cdv A outer s H vs Q E hr h=>?_)
 ·£⟨_,_,_,_,_,_,rfl,_,_,_,_⟩:=h;rfl
 ¤nd:=Lu.nd;¤hu:=b9 hr;¤hu0:=Nat.lt_of_succ_lt hu;£⟨d,nl,b,ns,zs,n,rfl,hD,hN,hn,q⟩:=h;¤m_len:=G.m_len;¤m_range:=G.m_range;¤m_tuple:=G.m_tuple;¶⟨_,(A5 (C0 2 nd (AG h_law_next hr (A1 (A0 0) (A3 0)))) (A5 (A7 3 nd (A4 (AK 0) (A2 0) (A4 (A9 0) (AO 2) (A2 0)))) (A5 (A7 4 nd (A4 (AK 0) (A2 0) (A4 (A9 0) (A4 (AQ 0) (AO 2) (A2 0)) (A2 0)))) (BI (AE (AB (AR 0) (A4 (A9 0) (A4 (AQ 0) (AO 2) (A2 0)) (A2 0)) (A2 0) (AA 0)) (A5 (A7 3 nd (A4 (AK 0) (A2 0) (A4 (A9 0) (A4 (AQ 0) (AO 2) (A2 0)) (A2 0)))) (A6 (A7 4 nd (A2 0)))) (AT 0)) (A5 (A7 5 nd (AZ (BJ 0) m_tuple fc (A1 (B6 (BN 0) (A0 1) (B7 0) (B9 (A0 3))) (A3 0)))) (A5 (A7 6 nd (A8 (AF 0) (A0 5) (A2 0))) (BI (C0 7 nd (AC (A1 (AI (A1 (A0 6) (A1 (AI (A1 (AL 0) (A3 0))) (A3 0)))) (A1 (AI (A1 (A0 6) (A1 (AI (A1 (AL 0) (A3 0))) (A3 0)))) (A1 (AI (A1 (A0 6) (A1 (AI (A1 (AL 0) (A1 (A0 6) (A1 (A0 6) (A3 0))))) (A3 0)))) (A1 (AI (A1 (A0 6) (A1 (AI (A1 (AL 0) (A1 (A0 6) (A3 0)))) (A3 0)))) (A3 0))))))) (A5 (C0 7 nd (BU (BL ["k"] ["cell","shapes"] [2,7] (And.intro rfl (And.intro rfl trivial)) (And.intro (And.intro rfl (And.intro rfl rfl)) (And.intro (And.intro rfl (And.intro rfl rfl)) trivial))) (BP m_range (A1 (A2 0) (A3 0))) (λ_ _ _=>(BE 0 (show List.Nodup (["k","cell","shapes"]:List Str) by decide+kernel))) (λ_ _ _=>(@pif1 _ _ _ (AB (@Cs _) (A4 (A9 0) (A4 (AQ 0) (A4 (AQ 0) (AO 1) (A2 0)) (A8 (@Au _ K rfl) (AC (BF (BV (BV (BV (BV (BG 0))))))) (A0 0))) (A2 0)) (A2 0) (AA 0)))) (λ_ _ _=>(A8 (@Au _ K rfl) (AO 2) (A0 0))))) (A5 (AY (BP m_range (A1 (A0 4) (A3 0))) (AJ 8 nd (by first | §Or.inl rfl | §Or.inr rfl)) (A5 (A7 9 nd (AG h_law_next hr (A1 (A0 0) (A3 0)))) (A5 (A7 10 nd (AG h_law_shape hr (A1 (A0 0) (A1 (A0 5) (A3 0))))) (BI (AE (AB (AR 0) (A4 (A9 0) (A0 9) (A2 0)) (A2 0) (AA 0)) (A6 (A7 10 nd (AI (A1 (A8 (AF 0) (A0 5) (A4 (A9 0) (A4 (AQ 0) (A0 9) (A2 0)) (AN (AX 0) m_len cw (A1 (A0 5) (A3 0))))) (A3 0))))) (AT 0)) (A6 (AS (AU PySem.F.plainAttrs_list PySem.F.slot_list_append PySem.F.type_list_append (AV 0) (AO 7) (A1 (AI (A1 (A8 (AF 0) (A0 5) (A4 (A9 0) (A4 (AQ 0) (A0 9) (A2 0)) (AN (AX 0) m_len cw (A1 (A0 5) (A3 0))))) (A1 (A0 10) (A3 0)))) (A3 0))))))))) (A5 (A7 11 nd (AC (A3 0))) (A5 (AY (BD (AO 7)) (BS (AW (AJ 12 nd (by first | §Or.inl rfl | §Or.inr rfl)) (AW (AJ 10 nd (by first | §Or.inl rfl | §Or.inr rfl)) (BO 0)))) (A5 (A7 9 nd (AG h_law_next hr (A1 (A0 0) (A3 0)))) (A5 (A7 13 nd (A8 (AM 0) (AC (A1 (A4 (AK 0) (A2 0) (A4 (A9 0) (A4 (AQ 0) (A0 9) (A2 0)) (A2 0))) (A1 (A4 (AK 0) (A2 0) (A4 (A9 0) (A4 (AQ 0) (A0 9) (A2 0)) (A2 0))) (A1 (A4 (AK 0) (A2 0) (A4 (A9 0) (A4 (AQ 0) (A0 9) (A2 0)) (A2 0))) (A3 0))))) (A4 (A9 0) (A0 9) (A2 0)))) (A6 (AS (AU PySem.F.plainAttrs_list PySem.F.slot_list_append PySem.F.type_list_append (AV 0) (A0 11) (A1 (AI (A1 (A8 (AM 0) (A0 1) (A4 (AK 0) (A2 0) (AN (AX 0) m_len cw (A1 (A0 11) (A3 0))))) (A1 (A0 12) (A1 (A0 13) (A1 (A0 10) (A1 (AG h_law_deeds hr (A1 (A0 5) (A1 (A0 10) (A3 0)))) (A3 0))))))) (A3 0)))))))) (A5 (A7 14 nd (A4 (A9 0) (A4 (AQ 0) (AO 2) (A2 0)) (AN (AX 0) m_len cw (A1 (A0 11) (A3 0))))) (A6 (AD (AI (A1 (A0 5) (A1 (AZ (BJ 0) m_tuple fc (A1 (A4 (@mz _) (B6 (BN 0) (A0 11) (B9 (A0 14)) (B7 0)) (B6 (BN 0) (A0 11) (B7 0) (B9 (A0 14)))) (A3 0))) (A3 0)))))))))))))))))),?_⟩;rw[show start ["deck","names","cell","many","drawn","kinds","first","shapes","k","one","shape","rules","kind","price","at"] [.ref d,.ref nl]=[some (.ref d),some (.ref nl),none,none,none,none,none,none,none,none,none,none,none,none,none] from rfl];clear hu hu0 nd hr;push_cast [and_true];¤sz:=sizeLine_eq;¶nh hD ¥ λc H1 s1 d1=>?_;push_cast [and_true];¤D1:=hD.next s1 d1
 ¤N1:=hN.b8 hD s1;¶fb (λσ' H2=>∃many drawn:Nat,σ'=[some (.ref d),some (.ref nl),some (.int c),some (.int (many:Int)),some (.int (drawn:Int)),none,none,none,none,none,none,none,none,none,none]∧H1=H2∧1≤many∧many≤8∧3≤drawn∧drawn≤36) ?_ ?_
 ·push_cast [and_true];¶⟨rfl,bu (λe=>⟨(1+c / 448 % 8).toNat,¥,36,by rfl,¥,¥,by decide,by decide⟩) λe=>⟨(1+c % 3).toNat,¥,(3+c / 7 % 8).toNat,¥,¥,¥,¥,¥⟩⟩
 rintro _ _ ⟨many,drawn,rfl,rfl,m1,m2,r1,r2⟩;push_cast [and_true];¤ct:cn (zs.map V.str) none (some (many:Int))=(zs.take many).map V.str:=by rw[kh _ many (by rw[List.length_map,hN.2.1];¡),List.map_take]
 ¶⟨zs.map V.str,SqL.of N1.1,λp1 hp1=>?_⟩;rw[ct];¶⟨_,.inl ⟨SqL.of ae,λkt hkt=>?_⟩⟩;£⟨kinds,hkd⟩:∃kinds,kinds=zs.take many:=⟨_,rfl⟩;rw[←hkd];¤kl:kinds.length=many:=by rw[hkd,List.length_take,hN.2.1];¡
 ¤hk:Kinds kinds:=λz hz=>hN.2.2.2 z (List.mem_of_mem_take (by rw[←hkd];§hz));¤q2:=(aa hp1 (.lst (kinds.map V.str))).trans (aa (by rw[←hkd] at hkt;§hkt) (.tup (kinds.map V.str)));rw[←hkd] at hkt;¤S2:aq d H (upd (upd H1 p1 (.lst (kinds.map V.str))) kt (.tup (kinds.map V.str))):=s1.trans (aq.of q2);¤d2:=q2 _ _ d1;¤k2:upd (upd H1 p1 (.lst (kinds.map V.str))) kt (.tup (kinds.map V.str)) kt=some (.tup (kinds.map V.str)):=ae;¤N2:=N1.same q2;generalize upd (upd H1 p1 (.lst (kinds.map V.str))) kt (.tup (kinds.map V.str))=H2 at S2 d2 k2 N2 q2 ⊢;£⟨z0,hz0,hk0⟩:∃z,atI (kinds.map V.str) 0=some (.str z)∧z∈kinds:=by
  cases kinds with
  | nil=>simp at kl;¡
  | cons z r=>§⟨z,bo (j:=0) rfl,List.mem_cons_self⟩
 ¶au k2 hz0 ?_;¶fb (λσ' I9=>∃sl b1 b2 b3 b4:Addr,σ'=[some (.ref d),some (.ref nl),some (.int c),some (.int (many:Int)),some (.int (drawn:Int)),some (.ref kt),some (.str z0),some (.ref sl),none,none,none,none,none,none,none]∧ak H2 I9∧I9 sl=some (.lst [V.ref b1,V.ref b2,V.ref b3,V.ref b4])∧∀k':Nat,k' < 4→∃(a s:Addr) (sh:List V),atI [V.ref b1,V.ref b2,V.ref b3,V.ref b4] (k':Int)=some (.ref a)∧I9 a=some (.tup [.str z0,.ref s])∧I9 s=some (.tup sh)∧jy kinds sh) ?_ λσ' I9 hh=>?_
 ·push_cast [and_true];¶⟨by show (1:Nat)≤sizeLine;decide,λa1 ha1=>?_⟩;¤sa1:=aa ha1 (.tup [V.str (Str.ofString "any")]);¤ea1:upd H2 a1 (.tup [V.str (Str.ofString "any")]) a1=some (.tup [V.str (Str.ofString "any")]):=ae;generalize upd H2 a1 (.tup [V.str (Str.ofString "any")])=I1 at sa1 ea1 ⊢;¶⟨by show (2:Nat)≤sizeLine;decide,λb1 hb1=>?_⟩;¤sb1:=aa hb1 (.tup [V.str z0,V.ref a1]);¤eb1:upd I1 b1 (.tup [V.str z0,V.ref a1]) b1=some (.tup [V.str z0,V.ref a1]):=ae;generalize upd I1 b1 (.tup [V.str z0,V.ref a1])=I2 at sb1 eb1 ⊢;¶⟨by show (1:Nat)≤sizeLine;decide,λa2 ha2=>?_⟩;¤sa2:=aa ha2 (.tup [V.str (Str.ofString "var")]);¤ea2:upd I2 a2 (.tup [V.str (Str.ofString "var")]) a2=some (.tup [V.str (Str.ofString "var")]):=ae;generalize upd I2 a2 (.tup [V.str (Str.ofString "var")])=I3 at sa2 ea2 ⊢;¶⟨by show (2:Nat)≤sizeLine;decide,λb2 hb2=>?_⟩;¤sb2:=aa hb2 (.tup [V.str z0,V.ref a2]);¤eb2:upd I3 b2 (.tup [V.str z0,V.ref a2]) b2=some (.tup [V.str z0,V.ref a2]):=ae;generalize upd I3 b2 (.tup [V.str z0,V.ref a2])=I4 at sb2 eb2 ⊢;¶⟨by show (3:Nat)≤sizeLine;decide,λa3 ha3=>?_⟩;¤sa3:=aa ha3 (.tup [V.str (Str.ofString "add"),V.str z0,V.str z0]);¤ea3:upd I4 a3 (.tup [V.str (Str.ofString "add"),V.str z0,V.str z0]) a3=some (.tup [V.str (Str.ofString "add"),V.str z0,V.str z0]):=ae;generalize upd I4 a3 (.tup [V.str (Str.ofString "add"),V.str z0,V.str z0])=I5 at sa3 ea3 ⊢;¶⟨by show (2:Nat)≤sizeLine;decide,λb3 hb3=>?_⟩;¤sb3:=aa hb3 (.tup [V.str z0,V.ref a3]);¤eb3:upd I5 b3 (.tup [V.str z0,V.ref a3]) b3=some (.tup [V.str z0,V.ref a3]):=ae;generalize upd I5 b3 (.tup [V.str z0,V.ref a3])=I6 at sb3 eb3 ⊢;¶⟨by show (2:Nat)≤sizeLine;decide,λa4 ha4=>?_⟩;¤sa4:=aa ha4 (.tup [V.str (Str.ofString "neg"),V.str z0]);¤ea4:upd I6 a4 (.tup [V.str (Str.ofString "neg"),V.str z0]) a4=some (.tup [V.str (Str.ofString "neg"),V.str z0]):=ae;generalize upd I6 a4 (.tup [V.str (Str.ofString "neg"),V.str z0])=I7 at sa4 ea4 ⊢;¶⟨by show (2:Nat)≤sizeLine;decide,λb4 hb4=>?_⟩;¤sb4:=aa hb4 (.tup [V.str z0,V.ref a4]);¤eb4:upd I7 b4 (.tup [V.str z0,V.ref a4]) b4=some (.tup [V.str z0,V.ref a4]):=ae;generalize upd I7 b4 (.tup [V.str z0,V.ref a4])=I8 at sb4 eb4 ⊢;¶⟨by show (4:Nat)≤sizeLine;decide,λsl hsl=>?_⟩;¤ssl:=aa hsl (.lst [V.ref b1,V.ref b2,V.ref b3,V.ref b4]);¤esl:upd I8 sl (.lst [V.ref b1,V.ref b2,V.ref b3,V.ref b4]) sl=some (.lst [V.ref b1,V.ref b2,V.ref b3,V.ref b4]):=ae;generalize upd I8 sl (.lst [V.ref b1,V.ref b2,V.ref b3,V.ref b4])=I9 at ssl esl ⊢;¤u8:=sb4.trans ssl;¤u7:=sa4.trans u8;¤u6:=sb3.trans u7;¤u5:=sa3.trans u6;¤u4:=sb2.trans u5;¤u3:=sa2.trans u4;¤u2:=sb1.trans u3;¤u1:=sa1.trans u2;¤sh4:∀k':Nat,k' < 4→∃(a s:Addr) (sh:List V),atI [V.ref b1,V.ref b2,V.ref b3,V.ref b4] (k':Int)=some (.ref a)∧I9 a=some (.tup [.str z0,.ref s])∧I9 s=some (.tup sh)∧jy kinds sh:=λk' hk'=>by
   rcases k' with _ | _ | _ | _ | k'
   ·§⟨b1,a1,_,bo rfl,u3 _ _ eb1,u2 _ _ ea1,Ly kinds⟩
   ·§⟨b2,a2,_,bo rfl,u5 _ _ eb2,u4 _ _ ea2,J1 kinds⟩
   ·§⟨b3,a3,_,bo rfl,u7 _ _ eb3,u6 _ _ ea3,Mz hk hk0⟩
   ·§⟨b4,a4,_,bo rfl,ssl _ _ eb4,u8 _ _ ea4,Lm hk hk0⟩
   ·¡
  §⟨u1,b1,b2,b3,b4,esl,λk' hk'=>by £⟨a,s,sh,h1,h2,h3,h4⟩:=sh4 k' hk';§⟨a,h1,s,h2,sh,h3,h4⟩⟩
 ¶ob5 (hh) λsl b1 b2 b3 b4 hh=>?_;¤u1:=hh.2.1;¤esl:=hh.2.2.1;¤sh4:=hh.2.2.2;£rfl:=hh.1;clear hh;¤S9:aq d H I9:=S2.trans (aq.of u1);¤d9:=u1 _ _ d2;¤k9:=u1 _ _ k2;¤N9:=N2.same u1;clear u1 q2 hkt N2 d2 k2 S2;push_cast [and_true];¿D hD';¶Jm (n:=4) (λj ys=>∃(sa:List Addr) (ps:List (Str×List V)),ys=sa.map V.ref∧gf I9 sa kinds ps∧ps.length≤j) ¥ hD' ⟨[],[],rfl,gf.nil _ _,Nat.le_refl _⟩ (λj ys H3 G' K' hj hP hl2 hS' hG hK'=>?_) λys H3 hP hl2 hS' hD2=>?_
 ·£⟨sa,ps,rfl,hsh,hpl⟩:=hP;£⟨a,s,sh,g1,g2,g3,g4⟩:=sh4 j hj;£⟨y,hy,hym⟩:=b7 [V.int 1,V.int 3,V.int 9,V.int 27] (0+(j:Int)) ¥ (by show 0+(j:Int) < 4;¡);£⟨y',rfl,hy0,hy1⟩:∃y':Int,y=.int y'∧0 < y'∧y' < 1073741824:=by
   simp only[List.mem_cons,List.not_mem_nil,or_false] at hym;rcases hym with rfl | rfl | rfl | rfl <;> §⟨_,rfl,by decide,by decide⟩
  push_cast [pj];¶⟨by show (4:Nat)≤sizeLine;decide,λp4 hp4=>ao ae hy ⟨hy0,hy1,rfl,bu (λe=>?_) λe=>hG _ (aa hp4 _) ⟨sa,ps,rfl,hsh,¥⟩⟩⟩;¶ao (aa hp4 _ _ _ (hS' _ _ esl)) (by rw[show (0+(j:Int))=((j:Nat):Int) by ¡];§g1) (hK' _ _ (aa hp4 _) ⟨sa++[a],ps++[(z0,sh)],by rw[List.map_append];rfl,hsh.snoc ⟨g4,hk0⟩ g2 g3,by rw[List.length_append,List.length_singleton];¡⟩)
 ·£⟨sa,ps,rfl,hsh,hpl⟩:=hP;¤S10:=S9.trans (aq.of hS');¤d10:=hS' _ _ d9;¤k10:=hS' _ _ k9;¤N10:=N9.same hS';¤hsh10:=hsh.same hS';¤fD:=S9.free d9 hD';¤nDd:D≠d:=(ag d9 hD').symm;¤nt:∀{a:Addr} {xs:List V} {H':Hp} {n':Nat},H' d=some (.lst [.ref b,.int (n':Int)])→H' a=some (.tup xs)→a≠d:=λh1 h2=>df h2 h1 (by ¿e;cases e);¶⟨¥,¥,?_⟩;rw[show ((drawn:Nat):Int).toNat=drawn by ¡];£⟨P1,eP1⟩:∃P1:Nat→L2.St→Hp→Prop,∀j σ H',P1 j σ H'↔∃(sa:List Addr) (ps:List (Str×List V)) (n':Nat) (v8 v9 v10:Option V),σ=[some (.ref d),some (.ref nl),some (.int c),some (.int (many:Int)),some (.int (drawn:Int)),some (.ref kt),some (.str z0),some (.ref D),v8,v9,v10,none,none,none,none]∧aq d H H'∧H' d=some (.lst [.ref b,.int (n':Int)])∧n'≤n+1+13*j∧H' D=some (.lst (sa.map V.ref))∧H' kt=some (.tup (kinds.map V.str))∧cg H' nl zs∧gf H' sa kinds ps∧ps.length≤4+j∧j≤ps.length:=⟨_,λ_ _ _=>Iff.rfl⟩;¶fh (lo:=0) P1 ((eP1 _ _ _).mpr ⟨sa,ps,n+1,none,none,none,rfl,S10,d10,¥,hD2,k10,N10,hsh10,¥,Nat.zero_le _⟩) ?_ ?_
  ·¿j σ H5 hj hh;¶ob6 ((eP1 _ _ _).mp hh) λsa ps n' v8 v9 v10 hh=>?_;¤s5:=hh.2.1;¤d5:=hh.2.2.1;¤hn5:=hh.2.2.2.1;¤D5:=hh.2.2.2.2.1;¤k5:=hh.2.2.2.2.2.1;¤N5:=hh.2.2.2.2.2.2.1;¤sh5:=hh.2.2.2.2.2.2.2.1;¤pl5:=hh.2.2.2.2.2.2.2.2.1;¤pj5:=hh.2.2.2.2.2.2.2.2.2;£rfl:=hh.1;clear hh;push_cast [and_true];¶nh (hD.next s5 d5) ¥ λone H6 s6 d6=>?_;¤S6:=s5.trans s6;¤D6:=s6 D _ nDd D5;¤k6:=s6 kt _ (nt d5 k5) k5;¤N6:=N5.b8 (hD.next s5 d5) s6;¤sh6:=sh5.b8 (hD.next s5 d5) s6;¶Pn (hD.next S6 d6) k6 hk ¥ ¥ ¥ λt n2 H7 sh s7 d7 hn7 ht h7 ok7=>?_;push_cast [and_true];¤Dk6:=hD.next S6 d6
   ¤S7:=S6.trans s7;¤D7:=s7 D _ nDd D6;¤k7:=s7 kt _ (nt d6 k6) k6;¤N7:=N6.b8 Dk6 s7;¤sh7:=sh6.b8 Dk6 s7;¤kat:∀i:Int,∃z,atI (kinds.map V.str) (i % (((kinds.map V.str).length:Nat):Int))=some (.str z)∧z∈kinds:=λi=>by
    £⟨y,hy,hym⟩:=b7 (kinds.map V.str) (i % (((kinds.map V.str).length:Nat):Int)) (Int.emod_nonneg _ (by rw[List.length_map];¡)) (Int.emod_lt_of_pos _ (by rw[List.length_map];¡));£⟨z,hz,rfl⟩:=List.mem_map.mp hym;§⟨z,hy,hz⟩
   ¶fb (λσ' H8=>∃(t':Addr) (sh':List V),σ'=[some (.ref d),some (.ref nl),some (.int c),some (.int (many:Int)),some (.int (drawn:Int)),some (.ref kt),some (.str z0),some (.ref D),some (.int (0+(j:Int))),some (.int one),some (.ref t'),none,none,none,none]∧ak H7 H8∧H8 t'=some (.tup sh')∧jy kinds sh') ?_ ?_
   ·push_cast [pj];¶⟨rfl,bu (λe=>⟨_,.inr (SqT.of k7),by rw[List.length_map];¡,?_⟩) λe=>⟨ak.refl _,_,h7,ok7⟩⟩;£⟨z,hz,hzk⟩:=kat (one / 5);§au k7 hz ⟨by show (1:Nat)≤sizeLine;decide,λt' ht'=>⟨aa ht' _,_,ae,G8 hk hzk⟩⟩
   rintro _ H8 ⟨t',sh',rfl,s8,h8,ok8⟩;push_cast [pj];£⟨z,hz,hzk⟩:=kat (one / 15);¶⟨av (s8 _ _ D7),_,.inr (SqT.of (s8 _ _ k7)),by rw[List.length_map];¡,au (s8 _ _ k7) hz ⟨by show (2:Nat)≤sizeLine;decide,λpr hpr=>?_⟩⟩;¤s9:=s8.trans (aa hpr (.tup [V.str z,V.ref t']));¤S9':=S7.trans (aq.of s9);¤e9:upd H8 pr (.tup [V.str z,V.ref t']) pr=some (.tup [V.str z,V.ref t']):=ae;¤h9:=aa hpr (.tup [V.str z,V.ref t']) _ _ h8;generalize upd H8 pr (.tup [V.str z,V.ref t'])=H9 at s9 S9' e9 h9 ⊢;¤sal:sa.length=ps.length:=sh5.1;¤uD:ak H9 (upd H9 D (.lst (sa.map V.ref++[V.ref pr])))∨True:=.inr trivial;¤tD:∀{a:Addr} {xs:List V},H9 a=some (.tup xs)→upd H9 D (.lst (sa.map V.ref++[V.ref pr])) a=some (.tup xs):=λh=>by rw[af (df h (s9 _ _ D7) (by ¿e;cases e))];§h
   ¤sh9:=(sh7.same s9).snoc ⟨ok8,hzk⟩ e9 h9;¶(bb (K:=K) (s9 _ _ D7) (by rw[List.length_map];¡) ((eP1 _ _ _).mpr ⟨sa++[pr],ps++[(z,sh')],n2,_,_,_,rfl,S9'.upd fD _,by rw[af nDd.symm];§s9 _ _ d7,¥,by rw[ae,List.map_append];rfl,tD (s9 _ _ k7),⟨?_,N7.2⟩,⟨sh9.1,λi k' s' hi=>?_⟩,by rw[List.length_append,List.length_singleton];¡,by rw[List.length_append,List.length_singleton];¡⟩)).2
   ·rw[af (ag hN.1 fD)];§s9 _ _ N7.1
   ·£⟨o1,a,t,x1,x2,x3⟩:=sh9.2 i k' s' hi;§⟨o1,a,t,x1,tD x2,tD x3⟩
  ·intro σ H5 hh;¶ob6 ((eP1 _ _ _).mp hh) λsa ps n' v8 v9 v10 hh=>?_;¤s5:=hh.2.1;¤d5:=hh.2.2.1;¤hn5:=hh.2.2.2.1;¤D5:=hh.2.2.2.2.1;¤k5:=hh.2.2.2.2.2.1;¤N5:=hh.2.2.2.2.2.2.1;¤sh5:=hh.2.2.2.2.2.2.2.1;¤pl5:=hh.2.2.2.2.2.2.2.2.1;¤pj5:=hh.2.2.2.2.2.2.2.2.2;£rfl:=hh.1;clear hh;push_cast [and_true];¶⟨Nat.zero_le _,λrl hrl=>⟨⟨_,SqL.of (aa hrl _ _ _ D5)⟩,?_⟩⟩;¤frl:=s5.free d5 hrl;¤nrd:rl≠d:=(ag d5 hrl).symm;¤S6:=s5.trans (aq.of (aa hrl (.lst [])));¤d6:=aa hrl (.lst []) _ _ d5;¤D6:=aa hrl (.lst []) _ _ D5;¤k6:=aa hrl (.lst []) _ _ k5;¤N6:=N5.same (aa hrl (.lst []));¤sh6:=sh5.same (aa hrl (.lst []));¤r6:upd H5 rl (.lst []) rl=some (.lst []):=ae;¤nrD:rl≠D:=(ag D5 hrl).symm;generalize upd H5 rl (.lst [])=H6 at S6 d6 D6 k6 N6 sh6 r6 ⊢;¤sal:sa.length=ps.length:=sh5.1;£⟨P2,eP2⟩:∃P2:Nat→L2.St→Hp→Prop,∀i σ H',P2 i σ H'↔∃(ra:List Addr) (rs:List Rl) (m:Nat) (w8 w9 w10 w12 w13:Option V),σ=[some (.ref d),some (.ref nl),some (.int c),some (.int (many:Int)),some (.int (drawn:Int)),some (.ref kt),some (.str z0),some (.ref D),w8,w9,w10,some (.ref rl),w12,w13,none]∧aq d H H'∧H' d=some (.lst [.ref b,.int (m:Int)])∧m≤n'+i∧H' D=some (.lst (sa.map V.ref))∧H' kt=some (.tup (kinds.map V.str))∧cg H' nl zs∧gf H' sa kinds ps∧H' rl=some (.lst (ra.map V.ref))∧dk H' ra rs∧rs.length=i∧rs.map (·.name)=(zs.drop 8).take i∧∀r∈rs,jy kinds r.shape∧1≤r.price∧r.kind∈kinds:=⟨_,λ_ _ _=>Iff.rfl⟩;¶dg (xs:=sa.map V.ref) P2 ((eP2 _ _ _).mpr ⟨[],[],n',v8,v9,v10,none,none,rfl,S6,d6,¥,D6,k6,N6,sh6,r6,⟨rfl,λi r h=>by simp at h⟩,rfl,rfl,λ_ h=>nomatch h⟩) (λi σ H' _ h=>by £⟨_,_,_,_,_,_,_,_,_,_,_,_,hd,_⟩:=(eP2 _ _ _).mp h;§SqL.of hd) ?_ ?_
   ·¿i y σ H7 hy hh;¶ob8 ((eP2 _ _ _).mp hh) λra rs m w8 w9 w10 w12 w13 hh=>?_;¤s7:=hh.2.1;¤d7:=hh.2.2.1;¤hm7:=hh.2.2.2.1;¤D7:=hh.2.2.2.2.1;¤k7:=hh.2.2.2.2.2.1;¤N7:=hh.2.2.2.2.2.2.1;¤sh7:=hh.2.2.2.2.2.2.2.1;¤r7:=hh.2.2.2.2.2.2.2.2.1;¤R7:=hh.2.2.2.2.2.2.2.2.2.1;¤rl7:=hh.2.2.2.2.2.2.2.2.2.2.1;¤nm7:=hh.2.2.2.2.2.2.2.2.2.2.2.1;¤so7:=hh.2.2.2.2.2.2.2.2.2.2.2.2;£rfl:=hh.1;clear hh;rw[List.getElem?_map] at hy;£⟨ai,hai,rfl⟩:=Option.map_eq_some_iff.mp hy;¤hil:i < ps.length:=by rw[←sal];§(List.getElem?_eq_some_iff.mp hai).1
    £⟨⟨ki,shi⟩,hpi⟩:∃t,ps[i]?=some t:=⟨_,List.getElem?_eq_getElem hil⟩;£⟨oki,a',si,x1,x2,x3⟩:=sh7.2 i ki shi hpi;£rfl:a'=ai:=Option.some.inj (x1.symm.trans hai);¤hD7:=hD.next s7 d7
    ¶Bn x2 rfl ?_;push_cast [and_true];¶nh hD7 ¥ λone H8 s8 d8=>?_;push_cast [pj];¶⟨by show (3:Nat)≤sizeLine;decide,λp hp=>?_⟩;£⟨y,hy,hym⟩:=b7 [V.int (1+one / 3 % 4),V.int (1+one / 3 % 30),V.int (1+one / 3 % 999999)] (one % 3) (Int.emod_nonneg _ (by decide)) (Int.emod_lt_of_pos _ (by decide));£⟨y',rfl,hy1⟩:∃y':Int,y=.int y'∧1≤y':=by
     simp only[List.mem_cons,List.not_mem_nil,or_false] at hym;rcases hym with rfl | rfl | rfl <;> §⟨_,rfl,¥⟩
    ¶ao ae hy ?_;¤S8:=s7.trans (s8.trans (aq.of (aa hp (.lst [V.int (1+one / 3 % 4),V.int (1+one / 3 % 30),V.int (1+one / 3 % 999999)]))));¤s8':=s8.trans (aq.of (d:=d) (aa hp (.lst [V.int (1+one / 3 % 4),V.int (1+one / 3 % 30),V.int (1+one / 3 % 999999)])));¤d8':=aa hp (.lst [V.int (1+one / 3 % 4),V.int (1+one / 3 % 30),V.int (1+one / 3 % 999999)]) _ _ d8;generalize upd H8 p (.lst [V.int (1+one / 3 % 4),V.int (1+one / 3 % 30),V.int (1+one / 3 % 999999)])=H9 at S8 s8' d8' ⊢;¤r9:=s8' rl _ nrd r7;¤D9:=s8' D _ nDd D7;¤k9':=dv hD7 s8' k7;¤N9':=N7.b8 hD7 s8';¤sh9:=sh7.b8 hD7 s8';¤R9:=R7.keep (dv hD7 s8');¤x39:=dv hD7 s8' x3;¤ral:ra.length=i:=by rw[R7.1,rl7]
    ¤hzl:=hN.2.1;¤hz8:zs[8+i]?=some zs[8+i]:=List.getElem?_eq_getElem ¥;¶⟨av r9,_,.inl (SqL.of r9),ao (v:=.str zs[8+i]) N9'.1 ?_ (Qg k9' x39 hk oki.1 λt ds H10 s10 h10=>⟨by show (5:Nat)≤sizeLine;decide,λpr hpr=>?_⟩)⟩
    ·rw[List.length_map,ral,show (8:Int)+(i:Int)=((8+i:Nat):Int) by ¡];§bo (by rw[List.getElem?_map,hz8];rfl)
    ¤e11:upd H10 pr (.tup [V.str zs[8+i],V.str ki,V.int y',V.ref si,V.ref t]) pr=some (.tup [V.str zs[8+i],V.str ki,V.int y',V.ref si,V.ref t]):=ae;¤q11:=aa hpr (.tup [V.str zs[8+i],V.str ki,V.int y',V.ref si,V.ref t]);¤s11:=s10.trans q11;¤h11:=q11 _ _ h10;clear q11;generalize upd H10 pr (.tup [V.str zs[8+i],V.str ki,V.int y',V.ref si,V.ref t])=H11 at e11 s11 h11 ⊢;¤S11:=S8.trans (aq.of s11);¤r11:=s11 _ _ r9;¤R11:=(R9.same s11).snoc (r:=⟨zs[8+i],ki,y',shi⟩) ⟨si,t,ds,e11,s11 _ _ x39,h11⟩;¤tD:∀{a:Addr} {xs:List V},H11 a=some (.tup xs)→upd H11 rl (.lst (ra.map V.ref++[V.ref pr])) a=some (.tup xs):=λh=>by rw[af (df h r11 (by ¿e;cases e))];§h
    ¶(bb (K:=K) r11 (by rw[List.length_map];¡) ((eP2 _ _ _).mpr ⟨ra++[pr],rs++[⟨zs[8+i],ki,y',shi⟩],m+1,_,_,_,_,_,rfl,S11.upd frl _,by rw[af nrd.symm];§s11 _ _ d8',¥,by rw[af nrD.symm];§s11 _ _ D9,tD (s11 _ _ k9'),⟨?_,hN.2⟩,(sh9.same s11).keep tD,by rw[ae,List.map_append];rfl,R11.keep tD,by rw[List.length_append,List.length_singleton,rl7],Ei nm7 hz8,λr' hr'=>?_⟩)).2
    ·rw[af (ag hN.1 frl)];§s11 _ _ N9'.1
    ·rcases List.mem_append.mp hr' with g | g
     ·§so7 r' g
     ·rw[List.mem_singleton.mp g];§⟨oki.1,hy1,oki.2⟩
   ·intro σ H7 hh;¶ob8 ((eP2 _ _ _).mp hh) λra rs m w8 w9 w10 w12 w13 hh=>?_;¤s7:=hh.2.1;¤d7:=hh.2.2.1;¤hm7:=hh.2.2.2.1;¤D7:=hh.2.2.2.2.1;¤k7:=hh.2.2.2.2.2.1;¤N7:=hh.2.2.2.2.2.2.1;¤sh7:=hh.2.2.2.2.2.2.2.1;¤r7:=hh.2.2.2.2.2.2.2.2.1;¤R7:=hh.2.2.2.2.2.2.2.2.2.1;¤rl7:=hh.2.2.2.2.2.2.2.2.2.2.1;¤nm7:=hh.2.2.2.2.2.2.2.2.2.2.2.1;¤so7:=hh.2.2.2.2.2.2.2.2.2.2.2.2;£rfl:=hh.1;clear hh;push_cast [and_true];¤ral:ra.length=rs.length:=R7.1;rw[List.length_map] at hm7 rl7 nm7;rw[←rl7] at nm7;¤rsl:rs.length=ps.length:=by rw[rl7,sal]
    £⟨at',hat,hlt⟩:∃a:Nat,c / 11 % (((ra.map V.ref).length:Nat):Int)=(a:Int)∧a < ra.length:=⟨(c / 11 % (((ra.map V.ref).length:Nat):Int)).toNat,by
     rw[List.length_map];¤h1:=Int.emod_nonneg (c / 11) (show ((ra.length:Nat):Int)≠0 by ¡);¡,by
     rw[List.length_map];¤h1:=Int.emod_nonneg (c / 11) (show ((ra.length:Nat):Int)≠0 by ¡);¤h2:=Int.emod_lt_of_pos (c / 11) (show (0:Int) < ((ra.length:Nat):Int) by ¡);¡⟩
    ¶⟨_,.inl (SqL.of r7),by rw[List.length_map];¡,_,SqL.of r7,λp hp=>?_⟩;rw[hat];¤c1:cn (ra.map V.ref) (some (at':Int)) none=(ra.drop at').map V.ref:=by
     have:=As (ra.map V.ref) at' 0 (by rw[List.length_map];¡);rw[show ((at':Int)+((0:Nat):Int))=(at':Int) by ¡,Nat.add_zero] at this;rw[this,List.map_drop]
    ¤c2:cn (ra.map V.ref) none (some (at':Int))=(ra.take at').map V.ref:=by rw[kh _ _ (by rw[List.length_map];¡),List.map_take]
    rw[c1] at*;¶⟨_,SqL.of (aa hp _ _ _ r7),λp2 hp2=>?_⟩;rw[c2];¶Of (aa hp2 _ _ _ ae) ae (by rw[List.length_map,List.length_map,List.length_drop,List.length_take];¡) λp3 hp3=>⟨_,.inl ⟨SqL.of ae,λt ht=>⟨by show (2:Nat)≤sizeLine;decide,λbt hbt=>?_⟩⟩⟩;¤s8:=(aa hp (.lst ((ra.drop at').map V.ref))).trans ((aa hp2 (.lst ((ra.take at').map V.ref))).trans ((aa hp3 (.lst ((ra.drop at').map V.ref++(ra.take at').map V.ref))).trans ((aa ht (.tup ((ra.drop at').map V.ref++(ra.take at').map V.ref))).trans (aa hbt (.tup [V.ref kt,V.ref t])))));¶q bt m _ kinds (rs.drop at'++rs.take at') (s7.trans (aq.of s8)) (s8 _ _ d7) ¥ ⟨kt,t,ra.drop at'++ra.take at',ae,s8 _ _ k7,?_,(R7.rot at').same s8⟩ (bk_rot hk (by rw[hkd];§hN.2.2.1.sublist (List.take_sublist _ _)) ¥ hN.2.2.1 nm7 so7 ¥ at') (by rw[List.length_append,List.length_drop,List.length_take];¡);rw[List.map_append];§aa hbt _ _ _ ae
noncomputable abbrev m7:Stmt:=top 19
theorem G3:az ["deck","own","letters","cell","more","tail","names","k","sign","name"] ["deck"] (ah m7):=⟨rfl,rfl,rfl,by decide+kernel,rfl,by decide+kernel,by decide+kernel⟩
theorem Ll (G:Gs w K mg) (h_law_next:Has P w K mg base k "_law_next" ["deck"] gn) (D:Def K mg "_law_names" m7 ["deck"]):Has P w K mg base (k+1) "_law_names" ["deck"] oo:=by
 ¶D.has G3 (λvs H Q E h=>?_) (λf cdv A outer s H vs Q E hr h=>?_)
 ·£⟨_,_,_,_,rfl,_,_,_⟩:=h;rfl
 ¤nd:=G3.nd;¤hu:=b9 hr;¤hu0:=Nat.lt_of_succ_lt hu;£⟨d,b,ns,n,rfl,hD,hn,q⟩:=h;¤m_range:=G.m_range;¶⟨_,(A5 (A7 1 nd (AC (BF (AH (AH (AH (AH (AH (AH (AH (AH (AH (BG 0))))))))))))) (A5 (A7 2 nd (AL 0)) (A5 (A7 3 nd (AG h_law_next hr (A1 (A0 0) (A3 0)))) (A5 (A7 4 nd (A4 (AQ 0) (A0 3) (A2 0))) (A5 (A7 5 nd (A4 (@mj _) (A8 (@ka _) (A0 2) (A4 (A9 0) (A4 (AQ 0) (A0 4) (A2 0)) (A2 0))) (A4 (A9 0) (A4 (AQ 0) (A0 4) (A2 0)) (A2 0)))) (A5 (A7 6 nd (AC (A3 0))) (A5 (AY (BP m_range (A1 (A2 0) (A3 0))) (AJ 7 nd (by first | §Or.inl rfl | §Or.inr rfl)) (A5 (A7 8 nd (A8 (@ka _) (A0 2) (A4 (A9 0) (A4 (AK 0) (A0 4) (A0 7)) (A2 0)))) (A5 (A7 9 nd (A4 (BQ 0) (A4 (BQ 0) (A0 8) (A8 (@ka _) (A0 2) (A4 (A9 0) (A4 (AK 0) (A4 (AQ 0) (A0 4) (A2 0)) (A4 (AQ 0) (A0 7) (A2 0))) (A2 0)))) (A0 5))) (BI (AE (AB (AR 0) (A4 (A9 0) (A0 3) (A2 0)) (A2 0) (AA 0)) (A6 (A7 9 nd (A4 (BQ 0) (A8 (AM 0) (A0 1) (A4 (A9 0) (A4 (AK 0) (A0 7) (A0 4)) (A2 0))) (A8 (@ka _) (A0 2) (A4 (A9 0) (A4 (AK 0) (A4 (AQ 0) (A0 4) (A2 0)) (A4 (AQ 0) (A0 7) (A2 0))) (A2 0)))))) (AT 0)) (BI (AE (AB (AR 0) (A4 (A9 0) (A0 3) (A2 0)) (A2 0) (AA 0)) (A5 (A7 9 nd (A4 (@mj _) (A8 (@ka _) (A0 2) (A4 (A9 0) (A0 4) (A2 0))) (A4 (AK 0) (A2 0) (A4 (A9 0) (A0 7) (A2 0))))) (A5 (A7 9 nd (A4 (BQ 0) (A0 9) (A4 (@mj _) (A8 (@ka _) (A0 2) (A4 (A9 0) (A4 (AK 0) (A0 4) (A2 0)) (A2 0))) (A4 (A9 0) (A4 (AQ 0) (A0 7) (A2 0)) (A2 0))))) (A6 (A7 9 nd (A4 (BQ 0) (A0 9) (A8 (@ka _) (A0 2) (A4 (A9 0) (A4 (AK 0) (A4 (AK 0) (A0 4) (A2 0)) (A4 (AQ 0) (A0 7) (A2 0))) (A2 0)))))))) (AT 0)) (BI (AE (BH (BR 0) (A0 9) (A0 1)) (A6 (A7 9 nd (A4 (BQ 0) (A0 9) (AL 0)))) (AT 0)) (A6 (AS (AU PySem.F.plainAttrs_list PySem.F.slot_list_append PySem.F.type_list_append (AV 0) (A0 6) (A1 (A0 9) (A3 0))))))))))) (A6 (AD (A0 6)))))))))),?_⟩;rw[show start ["deck","own","letters","cell","more","tail","names","k","sign","name"] [.ref d]=[some (.ref d),none,none,none,none,none,none,none,none,none] from rfl];clear hu hu0 nd hr;push_cast [and_true];¤sz:=sizeLine_eq;¶⟨by show (9:Nat)≤sizeLine;decide,λp hp=>nh (hD.same (aa hp _)) ¥ λc H1 s1 d1=>?_⟩;push_cast [pj];¶gy ⟨_,rfl,¥,¥,by show (1:Nat)≤1000;decide,Nat.zero_le _,λl hl=>?_⟩;¤npd:p≠d:=(ag hD.1 hp).symm;¤p1:H1 p=some (.lst (d4.map V.str)):=s1 p _ npd ae;¤S1:aq d H H1:=(aq.of (aa hp (.lst (d4.map V.str)))).trans s1;¤fl:=S1.free d1 hl;¤nld:l≠d:=(ag d1 hl).symm;¤nlp:l≠p:=(ag p1 hl).symm;£⟨P1,eP1⟩:∃P1:Nat→L2.St→Hp→Prop,∀j σ H',P1 j σ H'↔∃v7 v8 v9:Option V,σ=[some (.ref d),some (.ref p),some (.str Bx),some (.int c),some (.int (c / 3)),some (.str (rf (c / 3))),some (.ref l),v7,v8,v9]∧aq d H H'∧H' d=some (.lst [.ref b,.int ((n+1:Nat):Int)])∧H' p=some (.lst (d4.map V.str))∧H' l=some (.lst ((List.range j).map λk=>V.str (nmP c k))):=⟨_,λ_ _ _=>Iff.rfl⟩;¶fh (lo:=0) P1 ((eP1 _ _ _).mpr ⟨none,none,none,rfl,S1.upd fl _,aa hl _ _ _ d1,aa hl _ _ _ p1,ae⟩) ?_ ?_
 ·¿j σ H5 hj hh;¶ob3 ((eP1 _ _ _).mp hh) λv7 v8 v9 hh=>?_;¤s5:=hh.2.1;¤d5:=hh.2.2.1;¤p5:=hh.2.2.2.1;¤l5:=hh.2.2.2.2;£rfl:=hh.1;clear hh;push_cast [and_true];simp only[Int.zero_add];¶gy (gy ⟨_,rfl,_,rfl,by rw[dq,dq];¡,by have:=Fe (c / 3) (c / 3) j;unfold nm0 at this;rw[Str.length_append] at this;¡,?_⟩);¶fb (λσ' H6=>σ'=[some (.ref d),some (.ref p),some (.str Bx),some (.int c),some (.int (c / 3)),some (.str (rf (c / 3))),some (.ref l),some (.int (j:Int)),some (.str (ltr (c / 3+(j:Int)))),some (.str (if c % 3=1 then nm1 (c / 3) j else nm0 (c / 3) (rf (c / 3)) j))]∧H5=H6) ?_ ?_
  ·push_cast [and_true];¶⟨rfl,bu (λe=>?_) λe=>?_⟩
   ·rw[if_pos e];¤b1:(((j:Int)+c / 3) % 9).toNat < d4.length:=by show _ < 9;¡
    ¤g:=Gz (c / 3) j;¤g2:nm1 (c / 3) j=d4[(((j:Int)+c / 3) % 9).toNat]++ltr (c / 3 / 9+(j:Int) / 9):=by
     unfold nm1;rw[List.getD_eq_getElem?_getD,List.getElem?_eq_getElem b1];rfl
    ¶ao (v:=.str d4[(((j:Int)+c / 3) % 9).toNat]) p5 ?_ (gy ⟨_,rfl,_,rfl,?_,g2.symm,rfl⟩)
    ·¤g3:((((j:Int)+c / 3) % 9).toNat:Int)=((j:Int)+c / 3) % 9:=by ¡
     ¤g4:=bo (xs:=d4.map V.str) (j:=(((j:Int)+c / 3) % 9).toNat) (v:=.str d4[(((j:Int)+c / 3) % 9).toNat]) (by rw[List.getElem?_map,List.getElem?_eq_getElem b1];rfl);rw[g3] at g4;§g4
    ·rw[g2,Str.length_append] at g;¡
   ·rw[if_neg e];rfl
  rintro _ _ ⟨rfl,rfl⟩;¶fb (λσ' H6=>∃v8:Option V,σ'=[some (.ref d),some (.ref p),some (.str Bx),some (.int c),some (.int (c / 3)),some (.str (rf (c / 3))),some (.ref l),some (.int (j:Int)),v8,some (.str (nmX c j))]∧H5=H6) ?_ ?_
  ·push_cast [and_true];¶⟨rfl,bu (λe=>?_) λe=>?_⟩
   ·¶gy ⟨_,rfl,¥,¥,by rw[dq];¡,gy ⟨_,rfl,¥,¥,by rw[dq];¡,by rw[lh,lh];¡,gy ⟨_,rfl,by rw[Str.length_append,lh,lh,dq];¡,?_,rfl⟩⟩⟩;unfold nmX;rw[if_pos e];rfl
   ·unfold nmX;rw[if_neg e]
  rintro _ _ ⟨v8',rfl,rfl⟩;¶fb (λσ' H6=>∃v8:Option V,σ'=[some (.ref d),some (.ref p),some (.str Bx),some (.int c),some (.int (c / 3)),some (.str (rf (c / 3))),some (.ref l),some (.int (j:Int)),v8,some (.str (nmP c j))]∧H5=H6) ?_ ?_
  ·push_cast [rIn];¤g:=Qe c j;¤hx:(Str.ofString "xq").length=2:=Di;¶⟨_,.inl (SqL.of p5),rfl,List.all_eq_true.mpr λx hx=>by £⟨z,_,rfl⟩:=List.mem_map.mp hx;rfl,bu (λe=>⟨¥,?_⟩) λe=>?_⟩
   ·unfold nmP;rw[if_pos ((Jk _).mp e)]
   ·unfold nmP;rw[if_neg λh=>e ((Jk _).mpr h)]
  rintro _ _ ⟨v8'',rfl,rfl⟩;push_cast [and_true];¶bb l5 (by rw[List.length_map,List.length_range];¡) ((eP1 _ _ _).mpr ⟨_,_,_,rfl,s5.upd fl _,by rw[af nld.symm];§d5,by rw[af nlp.symm];§p5,?_⟩);rw[ae,List.range_succ,List.map_append];rfl
 ·intro σ H5 hh;¶ob3 ((eP1 _ _ _).mp hh) λv7 v8 v9 hh=>?_;¤s5:=hh.2.1;¤d5:=hh.2.2.1;¤p5:=hh.2.2.2.1;¤l5:=hh.2.2.2.2;£rfl:=hh.1;clear hh;push_cast [and_true];§q l H5 _ s5 d5 (Eu l5)
noncomputable abbrev jx:Stmt:=top 26
theorem Cf:az ["kinds","shape"] ["kinds","shape"] (ah jx):=⟨rfl,rfl,rfl,by decide+kernel,rfl,by decide+kernel,by decide+kernel⟩
theorem Ib (G:Gs w K mg) (D:Def K mg "_law_holes" jx ["kinds","shape"]):Has P w K mg base (k+1) "_law_holes" ["kinds","shape"] (nz K):=by
 ¶D.has Cf (λvs H Q E h=>?_) (λf cdv A outer s H vs Q E hr h=>?_)
 ·£⟨_,_,_,_,rfl,_,_,_,_,_⟩:=h;rfl
 ¤nd:=Cf.nd;¤hu:=b9 hr;¤hu0:=Nat.lt_of_succ_lt hu;£⟨kt,st,kinds,sh,rfl,hK,hS,hw,hl,q⟩:=h;¶⟨_,(A6 (AD (BU (BL ["word"] ["kinds"] [0] (And.intro rfl trivial) (And.intro (And.intro rfl (And.intro rfl rfl)) trivial)) (BW (A0 1)) (λ_ _ _=>(BE 0 (show List.Nodup (["word","kinds"]:List Str) by decide+kernel))) (λ_ _ _=>(@pif1 _ _ _ (BH (@nr _ K rfl) (A0 0) (AO 1)))) (λ_ _ _=>(A0 0))))),?_⟩;rw[show start ["kinds","shape"] [.ref kt,.ref st]=[some (.ref kt),some (.ref st)] from rfl];clear hu hu0 nd hr;push_cast [and_true];¤sz:=sizeLine_eq;¤fl:(kinds.map V.str).all ij=true:=List.all_eq_true.mpr λx hx=>by £⟨z,_,rfl⟩:=List.mem_map.mp hx;rfl
 ¶⟨⟨sh,hS⟩,λD hD=>Dd (xs:=sh) (λi ys=>ys=(sh.take i).filter (isH kinds)) hS ¥ hD rfl (λi x ys H3 G' K' hx hP hl2 hS' hG hK'=>?_) λys H3 hP hl2 hS' hD2=>?_⟩
 ·¤hxw:=hw x (List.mem_of_getElem? hx);¤et:sh.take (i+1)=sh.take i++[x]:=by rw[List.take_add_one,hx];rfl
  push_cast [rIn];¶⟨_,.inr (hS'.tup hK),hxw.flat,fl,bu (λe=>?_) λe=>?_⟩
  ·rw[o9 hxw] at e;¶hK' _ _ (ak.refl _) ?_;rw[et,List.filter_append,←hP,List.filter_cons,if_pos e];rfl
  ·rw[o9 hxw] at e;¶hG _ (ak.refl _) ?_;rw[et,List.filter_append,←hP,List.filter_cons,if_neg e];§(List.append_nil _).symm
 ·rw[List.take_length,←jc] at hP;subst hP;§q D H3 hS' hD hD2
noncomputable abbrev mx:Stmt:=top 27
theorem Fn:az ["book","words","ends","found","back","place","rule","under"] ["book","words"] (ah mx):=⟨rfl,rfl,rfl,by decide+kernel,rfl,by decide+kernel,by decide+kernel⟩
theorem Lo (G:Gs w K mg) (h_law_ends:Has P w K mg base k "_law_ends" ["words"] (ze K)) (h_law_holes:Has P w K mg base k "_law_holes" ["kinds","shape"] (nz K)) (h_law_laid:Has P w K mg base k "_law_laid" ["kinds","shape","words","ends","place"] (ub K)) (D:Def K mg "_law_fits" mx ["book","words"]):Has P w K mg base (k+1) "_law_fits" ["book","words"] ud:=by
 ¶D.has Fn (λvs H Q E h=>?_) (λf cdv A outer s H vs Q E hr h=>?_)
 ·£⟨_,_,_,_,_,rfl,_,_,_,_,_⟩:=h;rfl
 ¤nd:=Fn.nd;¤hu:=b9 hr;¤hu0:=Nat.lt_of_succ_lt hu;£⟨b,wt,kinds,rs,ws,rfl,hB,hW,bk,tw,q⟩:=h;¤m_len:=G.m_len;¤m_list:=G.m_list;¤m_range:=G.m_range;¤m_zip:=G.m_zip;¶⟨_,(A5 (A7 2 nd (AG h_law_ends hr (A1 (A0 1) (A3 0)))) (A5 (A7 3 nd (AC (A3 0))) (A5 (AY (BP m_range (A1 (AN (AX 0) m_len cw (A1 (A0 1) (A3 0))) (A3 0))) (AJ 4 nd (by first | §Or.inl rfl | §Or.inr rfl)) (A5 (A7 5 nd (A4 (B0 0) (A4 (B0 0) (AN (AX 0) m_len cw (A1 (A0 1) (A3 0))) (A2 0)) (A0 4))) (A6 (AY (BW (A8 (AF 0) (A0 0) (A2 0))) (AJ 6 nd (by first | §Or.inl rfl | §Or.inr rfl)) (A5 (A7 7 nd (AG h_law_laid hr (A1 (A8 (AF 0) (A0 0) (A2 0)) (A1 (A8 (AF 0) (A0 6) (A2 0)) (A1 (A0 1) (A1 (A0 2) (A1 (A0 5) (A3 0)))))))) (A6 (AE (BT (@zf _ _ _ _ _ (A0 7)) (by first | §fw _ (by decide) (by decide) | rfl)) (A6 (AS (AU PySem.F.plainAttrs_list PySem.F.slot_list_append PySem.F.type_list_append (AV 0) (A0 3) (A1 (AI (A1 (A0 6) (A1 (A0 5) (A1 (@vm _ _ _ _ _ _ _ _ rfl rfl m_list rfl m_zip (A1 (A8 (AF 0) (A0 7) (A2 0)) (A1 (AG h_law_holes hr (A1 (A8 (AF 0) (A0 0) (A2 0)) (A1 (A8 (AF 0) (A0 6) (A2 0)) (A3 0)))) (A3 0))) rfl rfl rfl) (A3 0))))) (A3 0))))) (AT 0)))))))) (A6 (AD (A0 3)))))),?_⟩;rw[show start ["book","words","ends","found","back","place","rule","under"] [.ref b,.ref wt]=[some (.ref b),some (.ref wt),none,none,none,none,none,none] from rfl];clear hu hu0 nd hr;push_cast [and_true];¤sz:=sizeLine_eq;¤wl:=tw.len;¤rl:=bk.len;¶mkEnds (SqT.of hW) (λv hv=>(tw.w v hv).1) tw.one wl λet H1 s1 het e1=>⟨Nat.zero_le _,λfl hfl=>⟨ws,.inr (SqT.of ((s1.trans (aa hfl _)) _ _ hW)),¥,¥,?_⟩⟩;£⟨kt,rt,ra,hb,hkt,hrt,hRA⟩:=hB;rw[show ((ws.length:Nat):Int).toNat=ws.length by ¡];£⟨P1,eP1⟩:∃P1:Nat→L2.St→Hp→Prop,∀j σ H',P1 j σ H'↔∃(as:List Addr) (v4 v5 v6 v7:Option V),σ=[some (.ref b),some (.ref wt),some (.ref et),some (.ref fl),v4,v5,v6,v7]∧ak H1 H'∧H' fl=some (.lst (as.map V.ref))∧cq H' (λx=>H1 x≠none∨x=fl) as (Ah kinds rs ws j):=⟨_,λ_ _ _=>Iff.rfl⟩;¶fh (lo:=0) P1 ((eP1 _ _ _).mpr ⟨[],none,none,none,none,rfl,aa hfl _,ae,cq.nil _ _⟩) ?_ ?_
 ·¿j σ H2 hj hh;¶ob5 ((eP1 _ _ _).mp hh) λas v4 v5 v6 v7 hh=>?_;¤s2:=hh.2.1;¤f2:=hh.2.2.1;¤F2:=hh.2.2.2;£rfl:=hh.1;clear hh;¤S2:=s1.trans s2;push_cast [and_true];¶⟨ws,.inr (SqT.of (S2 _ _ hW)),?_⟩;£⟨p,hp,ep⟩:∃p:Nat,p=ws.length - 1 - j∧((ws.length:Nat):Int) - 1 - (0+(j:Int))=(p:Int):=⟨_,rfl,¥⟩;rw[ep];¶au (S2 _ _ hb) rfl ⟨rt,rfl,⟨_,SqT.of (S2 _ _ hrt)⟩,?_⟩;£⟨P2,eP2⟩:∃P2:Nat→L2.St→Hp→Prop,∀i σ H',P2 i σ H'↔∃(as:List Addr) (v6 v7:Option V),σ=[some (.ref b),some (.ref wt),some (.ref et),some (.ref fl),some (.int (0+(j:Int))),some (.int (p:Int)),v6,v7]∧ak H1 H'∧H' fl=some (.lst (as.map V.ref))∧cq H' (λx=>H1 x≠none∨x=fl) as (Ah kinds rs ws j++(rs.take i).filterMap (i9 kinds ws p)):=⟨_,λ_ _ _=>Iff.rfl⟩;¶qd (xs:=ra.map V.ref) P2 ((eP2 _ _ _).mpr ⟨as,v6,v7,rfl,s2,f2,by rw[List.take_zero];§(List.append_nil _).symm ▸ F2⟩) (λi σ H' _ h=>by £⟨_,_,_,_,s,_⟩:=(eP2 _ _ _).mp h;§SqT.of ((s1.trans s) _ _ hrt)) ?_ ?_
  ·¿i y σ H5 hy hh;¶ob3 ((eP2 _ _ _).mp hh) λas v6 v7 hh=>?_;¤s5:=hh.2.1;¤f5:=hh.2.2.1;¤F5:=hh.2.2.2;£rfl:=hh.1;clear hh;¤S5:=s1.trans s5;rw[List.getElem?_map] at hy;£⟨ai,hai,rfl⟩:=Option.map_eq_some_iff.mp hy;¤hil:i < rs.length:=by rw[←hRA.1];§(List.getElem?_eq_some_iff.mp hai).1
   ¤hri:rs[i]?=some rs[i]:=List.getElem?_eq_getElem hil;£⟨a',ha',sa,da,ds,g1,g2,g3⟩:=hRA.2 i _ hri;£rfl:a'=ai:=Option.some.inj (ha'.symm.trans hai);generalize rs[i]=r at hri g1 g2;¤hrm:=List.mem_of_getElem? hri;£⟨w1,w2,w3⟩:=bk.sh r hrm;¤et':(rs.take (i+1)).filterMap (i9 kinds ws p)=(rs.take i).filterMap (i9 kinds ws p)++(i9 kinds ws p r).toList:=by
    rw[List.take_add_one,hri,List.filterMap_append];congr 1
   push_cast [and_true];¶au (S5 _ _ hb) rfl (au (S5 _ _ g1) rfl (Ow (SqT.of (S5 _ _ g2)) (SqT.of (S5 _ _ hkt)) (SqT.of (S5 _ _ hW)) (s5 _ _ e1) bk.kd w1 w2 ¥ tw ¥ λH6 s6=>?_));¤S6:=S5.trans s6;cases hu:dy kinds ws r.shape p ⟨[],[],[]⟩ with
   | none=>
    ¤ef:i9 kinds ws p r=none:=by unfold i9;rw[hu];rfl
    ¶yb ?_;push_cast [vt];rw[if_neg (by simp)];¶(eP2 _ _ _).mpr ⟨as,_,_,rfl,s5.trans s6,s6 _ _ f5,?_⟩;rw[et',ef,show (none:Option Pc.Lf).toList=[] from rfl,List.append_nil];§F5.same s6
   | some u=>
    ¿t H7 s7 hu7 ok7;¤ef:i9 kinds ws p r=some ⟨p,r,u.hs.zip (ba kinds r.shape)⟩:=by unfold i9;rw[hu];rfl
    ¤S7:=S6.trans s7;£⟨t1,t2,t3,u1,u2,_⟩:=id hu7;push_cast [vt,tLZ];rw[if_pos (by simp)];¤s57:=s6.trans s7;¤f7:=s57 _ _ f5;¤hn:=(sf bk.kd r.shape p _ u w1 hu).1;¶⟨av f7,au u1 rfl (au (S7 _ _ hb) rfl (au (S7 _ _ g1) rfl (J8 (SqT.of (S7 _ _ hkt)) (SqT.of (S7 _ _ g2)) w1 ¥ λl H8 s8 hl8 h8=>?_)))⟩;¶⟨t1,rfl,l,rfl,u.hs.map plV,SqT.of (s8 _ _ u2),(ba kinds r.shape).map V.str,SqL.of h8,by rw[List.length_map,List.length_map];simpa using hn,λl2 bs H9 s9 hl9 hal hL hA=>⟨by show (3:Nat)≤sizeLine;decide,λpr hpr=>?_⟩⟩;¤sA:=aa hpr (.tup [V.ref a',V.int (p:Int),V.ref l2]);¤eA:upd H9 pr (.tup [V.ref a',V.int (p:Int),V.ref l2]) pr=some (.tup [V.ref a',V.int (p:Int),V.ref l2]):=ae;generalize upd H9 pr (.tup [V.ref a',V.int (p:Int),V.ref l2])=HA at sA eA ⊢;¤s7A:=s8.trans (s9.trans sA);¤fA:=s7A _ _ f7;¤fal:as.length≤100000+100:=by
     rw[F5.1,List.length_append];¤h1:=wy kinds rs ws rl j;¤h2:((rs.take i).filterMap (i9 kinds ws p)).length≤(rs.take i).length:=List.length_filterMap_le _ _;rw[List.length_take] at h2;¡
    ¶(bb (K:=K) fA (by rw[List.length_map];¡) ((eP2 _ _ _).mpr ⟨as++[pr],_,_,rfl,((s5.trans s57).trans s7A).upd hfl _,by rw[ae,List.map_append];rfl,?_⟩)).2;rw[et',ef,←List.append_assoc];¶cq.kx (cq.snoc (F5.same (s57.trans s7A)) ⟨a',l2,?_,eA,⟨sa,da,ds,(S7.trans s7A) _ _ g1,(S7.trans s7A) _ _ g2,(S7.trans s7A) _ _ g3⟩,?_⟩) ((Kx.upd fA).weak λx hx=>.inr hx)
    ·¤f9:H7 l2=none:=s8.free hl9;rintro (z | z)
     ·§z ((s5.trans s57).free f9)
     ·§(ag f7 f9) z.symm
    ·¶⟨bs,sA _ _ hL,?_,λj' k hj'=>?_⟩
     ·rw[hal,List.length_map,List.length_zip];have:u.hs.length=(ba kinds r.shape).length:=by simpa using hn
      ¡
     ·£⟨k1,k2⟩:=List.getElem?_zip_eq_some.mp (show (u.hs.zip (ba kinds r.shape))[j']?=some (k.1,k.2) from hj');£⟨a2,b1,b2⟩:=hA j' _ _ (by rw[List.getElem?_map,k1];rfl) (by rw[List.getElem?_map,k2];rfl);§⟨a2,b1,sA _ _ b2⟩
  ·intro σ H5 hh;¶ob3 ((eP2 _ _ _).mp hh) λas v6 v7 hh=>?_;¤s5:=hh.2.1;¤f5:=hh.2.2.1;¤F5:=hh.2.2.2;£rfl:=hh.1;clear hh;¶(eP1 _ _ _).mpr ⟨as,_,_,_,_,rfl,s5,f5,?_⟩;rw[List.length_map,List.take_of_length_le (by rw[hRA.1];§Nat.le_refl _),hp] at F5;rw[qt];§F5
 ·intro σ H2 hh;¶ob5 ((eP1 _ _ _).mp hh) λas v4 v5 v6 v7 hh=>?_;¤s2:=hh.2.1;¤f2:=hh.2.2.1;¤F2:=hh.2.2.2;£rfl:=hh.1;clear hh;push_cast [and_true];§q fl as H2 (s1.trans s2) (s1.free hfl) f2 (F2.weak λx hx=>.inl λz=>hx (s1.free z))
noncomputable abbrev nj:Stmt:=top 28
theorem G5:az ["rule","keys","least","cost","key"] ["rule","keys","least"] (ah nj):=⟨rfl,rfl,rfl,by decide+kernel,rfl,by decide+kernel,by decide+kernel⟩
theorem Jx (G:Gs w K mg) (D:Def K mg "_law_cost" nj ["rule","keys","least"]):Has P w K mg base (k+1) "_law_cost" ["rule","keys","least"] n8:=by
 ¶D.has G5 (λvs H Q E h=>?_) (λf cdv A outer s H vs Q E hr h=>?_)
 ·£⟨_,_,_,_,_,_,_,rfl,_,_,_,_⟩:=h;rfl
 ¤nd:=G5.nd;¤hu:=b9 hr;¤hu0:=Nat.lt_of_succ_lt hu;£⟨ra,hl,d,r,hs,g,n,rfl,hR,hH,hT,q⟩:=h;¶⟨_,(A5 (A7 3 nd (A8 (AF 0) (A0 0) (A2 0))) (A5 (AY (BD (A0 1)) (AJ 4 nd (by first | §Or.inl rfl | §Or.inr rfl)) (A5 (AE (BT (C6 hu (A0 4) (A0 2)) (by first | §fw _ (by decide) (by decide) | rfl)) (A6 (AD (A2 0))) (AT 0)) (A6 (A7 3 nd (A4 (AK 0) (A0 3) (BC hu (A0 2) (A0 4))))))) (A6 (AD (A0 3))))),?_⟩;rw[show start ["rule","keys","least","cost","key"] [.ref ra,.ref hl,.ref d]=[some (.ref ra),some (.ref hl),some (.ref d),none,none] from rfl];clear hu hu0 nd hr;push_cast [and_true];£⟨as,h1,h2,h3⟩:=hH;£⟨sa,da,ds,r1,r2,r3⟩:=hR;¶au r1 rfl ⟨⟨_,SqL.of h1⟩,dg (xs:=as.map V.ref) (λi σ H'=>∃(c:Int) (v4:Option V),σ=[some (.ref ra),some (.ref hl),some (.ref d),some (.int c),v4]∧H=H'∧cost g c (hs.drop i)=cost g r.price hs) ⟨r.price,none,rfl,rfl,rfl⟩ (λi σ H' _ h=>by £⟨_,_,_,rfl,_⟩:=h;§SqL.of h1) ?_ ?_⟩
 ·rintro i y σ H' hy ⟨c,v4,rfl,rfl,hc⟩;rw[List.getElem?_map] at hy;£⟨a,ha,rfl⟩:=Option.map_eq_some_iff.mp hy;¤hil:i < hs.length:=by rw[←h2];§(List.getElem?_eq_some_iff.mp ha).1
  ¤hk:hs[i]?=some hs[i]:=List.getElem?_eq_getElem hil;£⟨a',ha',hA⟩:=h3 i _ hk;£rfl:a'=a:=Option.some.inj (ha'.symm.trans ha);rw[List.drop_eq_getElem_cons hil] at hc;push_cast [and_true];¶⟨_,hT.get hA,?_⟩;cases e:g hs[i] with
  | none=>
   rw[i6 e] at hc;rw[←hc] at q;rw[if_pos (by simp)];§q
  | some v=>
   rw[gu e] at hc;¤hG:=hT.val hA e;rw[if_neg (by simp)];§⟨_,hG,hc⟩
 ·rintro σ H' ⟨c,v4,rfl,rfl,hc⟩;rw[List.length_map,h2,List.drop_length] at hc;¤hc:some c=cost g r.price hs:=hc;push_cast [and_true];rw[←hc] at q;§q
noncomputable abbrev ju:Stmt:=top 29
theorem Ba:az ["fits","least","again","rule","place","keys","cost","key"] ["fits"] (ah ju):=⟨rfl,rfl,rfl,by decide+kernel,rfl,by decide+kernel,by decide+kernel⟩
theorem Hq (G:Gs w K mg) (h_law_cost:Has P w K mg base k "_law_cost" ["rule","keys","least"] n8) (D:Def K mg "_law_least" ju ["fits"]):Has P w K mg base (k+1) "_law_least" ["fits"] ox:=by
 ¶D.has Ba (λvs H Q E h=>?_) (λf cdv A outer s H vs Q E hr h=>?_)
 ·£⟨_,_,_,rfl,_,_,_,_,_⟩:=h;rfl
 ¤nd:=Ba.nd;¤hu:=b9 hr;¤hu0:=Nat.lt_of_succ_lt hu;£⟨fl,as,fs,rfl,hF,hFs,hn,ho,q⟩:=h;¶⟨_,(A5 (A7 1 nd (@Bj _ _)) (A5 (A7 2 nd (BB 0)) (A5 (C4 (BX (A0 2)) (A5 (A7 2 nd (BB 0)) (A6 (AY (BD (A0 0)) (BS (AW (AJ 3 nd (by first | §Or.inl rfl | §Or.inr rfl)) (AW (AJ 4 nd (by first | §Or.inl rfl | §Or.inr rfl)) (AW (AJ 5 nd (by first | §Or.inl rfl | §Or.inr rfl)) (BO 0))))) (A5 (A7 6 nd (AG h_law_cost hr (A1 (A0 3) (A1 (A0 5) (A1 (A0 1) (A3 0)))))) (A5 (A7 7 nd (AI (A1 (A0 4) (A1 (A8 (AF 0) (A0 3) (A2 0)) (A3 0))))) (A6 (AE (BA (BK (AB (@jd _) (A0 6) (A2 0) (AA 0)) (BM (BA (BY (BT (C6 hu (A0 7) (A0 1)) (by first | §fw _ (by decide) (by decide) | rfl)) (C3 (AB (@ni _) (A0 6) (BC hu (A0 1) (A0 7)) (AA 0)))))))) (A5 (@G2 _ _ _ _ _ _ _ _ _ hu (A0 1) (A0 7) (A0 6) rfl) (A6 (A7 2 nd (BB 0)))) (AT 0))))))))) (A6 (AD (A0 1)))))),?_⟩;rw[show start ["fits","least","again","rule","place","keys","cost","key"] [.ref fl]=[some (.ref fl),none,none,none,none,none,none,none] from rfl];clear hu hu0 nd hr;push_cast [and_true];¤sz:=sizeLine_eq;¤hal:=hFs.1;¿d hd;¤own:∀f∈fs.map ie,1≤f.own:=λf hf=>by
  £⟨f',hf',rfl⟩:=List.mem_map.mp hf;§ho f' hf'
 £⟨μ,Ok,ok0,okpos,okstep⟩:=ends (F:=fs.map ie) (g0:=λ_=>none) (λk v h=>nomatch h) own ⟨0,λk v h=>nomatch h⟩;¤cl:∀g',cnt (fs.map ie) g'≤fs.length:=λg'=>by have:=Dm (fs.map ie) g';rw[List.length_map] at this;§this
 £⟨P1,eP1⟩:∃P1:L2.St→Hp→Prop,∀σ H',P1 σ H'↔∃(g':Ky→Option Int) (ks:List Ky) (b:Bool) (v3 v4 v5 v6 v7:Option V),σ=[some (.ref fl),some (.ref d),some (.bl b),v3,v4,v5,v6,v7]∧ak H H'∧TbK H' d g' ks∧ks.length≤cnt (fs.map ie) g'∧Ok g'∧Due (fs.map ie) g'∧(b=false→jh (fs.map ie) g'):=⟨_,λ_ _=>Iff.rfl⟩;¶kj P1 (λσ H'=>2*μ (gOf H' d)+blAt2 σ) ((eP1 _ _).mpr ⟨λ_=>none,[],true,none,none,none,none,none,rfl,aa hd _,TbK.nil,Nat.zero_le _,ok0,(λk v h=>nomatch h),λe=>nomatch e⟩) ?_ ?_
 ·intro σ H1 hh;¶ob8 ((eP1 _ _).mp hh) λg1 ks1 b v3 v4 v5 v6 v7 hh=>?_;¤s1:=hh.2.1;¤T1:=hh.2.2.1;¤L1:=hh.2.2.2.1;¤ok1:=hh.2.2.2.2.1;¤du1:=hh.2.2.2.2.2.1;¤st1:=hh.2.2.2.2.2.2;£rfl:=hh.1;clear hh;push_cast [and_true];cases b with
  | false=>
   rw[if_neg (by simp)];§q d H1 g1 ks1 s1 hd T1 ⟨st1 rfl,du1,okpos g1 ok1⟩ (Nat.le_trans L1 (cl g1))
  | true=>
   rw[if_pos (by simp)];¤e1:=zo T1.tb;£⟨Pv,ePv⟩:∃Pv:Nat→L2.St→Hp→Prop,∀i σ H',Pv i σ H'↔∃(g':Ky→Option Int) (ks:List Ky) (b:Bool) (v3 v4 v5 v6 v7:Option V),σ=[some (.ref fl),some (.ref d),some (.bl b),v3,v4,v5,v6,v7]∧ak H H'∧TbK H' d g' ks∧ks.length≤cnt (fs.map ie) g'∧Ok g'∧Due (fs.map ie) g'∧(b=false→g'=g1∧∀(j:Nat) (f:Pc.Lf),j < i→fs[j]?=some f→StL g1 f)∧(b=true→μ g' < μ g1):=⟨_,λ_ _ _=>Iff.rfl⟩;¶⟨⟨_,SqL.of (s1 _ _ hF)⟩,dg (xs:=as.map V.ref) Pv ((ePv _ _ _).mpr ⟨g1,ks1,false,v3,v4,v5,v6,v7,rfl,s1,T1,L1,ok1,du1,λ_=>⟨rfl,λj f h=>absurd h (Nat.not_lt_zero _)⟩,λe=>nomatch e⟩) (λi σ H' _ h=>by £⟨_,_,_,_,_,_,_,_,_,s,_⟩:=(ePv _ _ _).mp h;§SqL.of (s _ _ hF)) ?_ ?_⟩
   ·¿i y σ H2 hy hh;¶ob8 ((ePv _ _ _).mp hh) λg2 ks2 b v3 v4 v5 v6 v7 hh=>?_;¤s2:=hh.2.1;¤T2:=hh.2.2.1;¤L2:=hh.2.2.2.1;¤ok2:=hh.2.2.2.2.1;¤du2:=hh.2.2.2.2.2.1;¤bt2:=hh.2.2.2.2.2.2.1;¤bf2:=hh.2.2.2.2.2.2.2;£rfl:=hh.1;clear hh;rw[List.getElem?_map] at hy;£⟨a,ha,rfl⟩:=Option.map_eq_some_iff.mp hy;£⟨f,hfi,ra,hl,_,h3,h4,h5⟩:=(hFs.same s2).get ha;¤hfm:=List.mem_of_getElem? hfi;¶Cg h3 rfl ?_;push_cast [and_true];¶Gm h4 h5 T2.tb ?_;£⟨sa,da,ds,r1,r2,r3⟩:=h4;¶au r1 rfl ⟨by show (2:Nat)≤sizeLine;decide,λp1 hp1=>?_⟩;¤s3:=aa hp1 (.tup [V.int (f.place:Int),V.str f.r.kind]);¤k3:upd H2 p1 (.tup [V.int (f.place:Int),V.str f.r.kind]) p1=some (kyT (f.place,f.r.kind)):=ae;generalize upd H2 p1 (.tup [V.int (f.place:Int),V.str f.r.kind])=H3 at s3 k3 ⊢;¤T3:=T2.same s3;¤no:∀w3 w4 w5 w6 w7,StL g2 f→Pv (i+1) [some (.ref fl),some (.ref d),some (.bl b),w3,w4,w5,w6,w7] H3:=λw3 w4 w5 w6 w7 so=>(ePv _ _ _).mpr ⟨g2,ks2,b,w3,w4,w5,w6,w7,rfl,s2.trans s3,T3,L2,ok2,du2,λe=>⟨(bt2 e).1,λj f' hj hf'=>by
     £⟨e1',h⟩:=bt2 e;¦c:j < i
     ·§h j f' c hf'
     ·£rfl:j=i:=by ¡
      £rfl:f=f':=Option.some.inj (hfi.symm.trans hf');rw[←e1'];§so⟩,bf2⟩
    ¤yes:∀(c:Int) w3 w4 w5 w6 w7,cost g2 f.r.price f.hs=some c→Imp g2 (f.place,f.r.kind) c→∃H'',vw H3 d (.ref p1) (.int c) H''∧Pv (i+1) [some (.ref fl),some (.ref d),some (.bl true),w3,w4,w5,w6,w7] H'':=λc w3 w4 w5 w6 w7 hc im=>by
     ¤hfF:ie f∈fs.map ie:=List.mem_map.mpr ⟨f,hfm,rfl⟩;£⟨o,ks',hput,htb,hle⟩:=T3.put (v:=c) k3 (by have:=cl g2;¡);£⟨ok',lt⟩:=okstep g2 (ie f) c ok2 hfF hc im;¶⟨upd H3 d o,hput,(ePv _ _ _).mpr ⟨gb g2 (f.place,f.r.kind) c,ks',true,w3,w4,w5,w6,w7,rfl,(s2.trans s3).upd hd o,htb,Od hfF (f:=ie f) ?_,ok',Pq du2 hfF hc im,(λe=>nomatch e),λ_=>?_⟩⟩
     ·show ks'.length≤if (g2 (f.place,f.r.kind)).isSome then _ else _
      cases e:g2 (f.place,f.r.kind) with
      | none=>
       rw[e] at hle;simp only[Option.isSome_none,Bool.false_eq_true,if_false] at hle ⊢;¡
      | some v=>
       rw[e] at hle;simp only[Option.isSome_some,if_true] at hle ⊢;¡
     ·¤lt:μ (gb g2 (f.place,f.r.kind) c) < μ g2:=lt;cases b with
      | false=>
       £⟨rfl,_⟩:=bt2 rfl;§lt
      | true=>
       have:=bf2 rfl;¡
    cases e:cost g2 f.r.price f.hs with
    | none=>
     §ifN (by show ¬(0:Int) > 0;decide) (no _ _ _ _ _ λc hc=>by rw[e] at hc;cases hc)
    | some c=>
     ¤cp:=sq (okpos g2 ok2) e;¤cp2:=ho f hfm;¶bu (λ_=>⟨_,T3.tb.get k3,?_⟩) λz=>absurd (show c > 0 by ¡) z;cases e2:g2 (f.place,f.r.kind) with
     | none=>
      rw[if_pos (by simp)];§yes c _ _ _ _ _ e (.inl e2)
     | some v=>
      rw[if_neg (by simp)];¶⟨_,T3.tb.val k3 e2,bu (λlt=>yes c _ _ _ _ _ e (.inr ⟨v,e2,lt⟩)) λnlt=>no _ _ _ _ _ λc' hc'=>⟨v,e2,?_⟩⟩;rw[e] at hc';have:=Option.some.inj hc';¤nlt:¬c < v:=nlt;¡
   ·intro σ H2 hh;¶ob8 ((ePv _ _ _).mp hh) λg2 ks2 b v3 v4 v5 v6 v7 hh=>?_;¤s2:=hh.2.1;¤T2:=hh.2.2.1;¤L2:=hh.2.2.2.1;¤ok2:=hh.2.2.2.2.1;¤du2:=hh.2.2.2.2.2.1;¤bt2:=hh.2.2.2.2.2.2.1;¤bf2:=hh.2.2.2.2.2.2.2;£rfl:=hh.1;clear hh;¶⟨(eP1 _ _).mpr ⟨g2,ks2,b,v3,v4,v5,v6,v7,rfl,s2,T2,L2,ok2,du2,λe=>?_⟩,?_⟩
    ·£⟨rfl,h⟩:=bt2 e;§Ec λj f hf=>h j f (by rw[List.length_map,hal];§(List.getElem?_eq_some_iff.mp hf).1) hf
    ·rw[e1,zo T2.tb];cases b with
     | false=>
      £⟨rfl,_⟩:=bt2 rfl;show 2*μ g2+0 < 2*μ g2+1
      ¡
     | true=>
      have:=bf2 rfl;show 2*μ g2+1 < 2*μ g1+1
      ¡
 ·intro σ H1 Q1 Q2 h c;simp only[j6,tB,ja] at c ⊢;£⟨v,hv,cc,e,hq⟩:=c;§⟨v,hv,cc,e,h _ _ hq⟩
noncomputable abbrev jf:Stmt:=top 30
theorem Ct:az ["fits","least","found","rule","place","keys"] ["fits","least"] (ah jf):=⟨rfl,rfl,rfl,by decide+kernel,rfl,by decide+kernel,by decide+kernel⟩
theorem Ha (G:Gs w K mg) (h_law_cost:Has P w K mg base k "_law_cost" ["rule","keys","least"] n8) (D:Def K mg "_law_reaching" jf ["fits","least"]):Has P w K mg base (k+1) "_law_reaching" ["fits","least"] pq:=by
 ¶D.has Ct (λvs H Q E h=>?_) (λf cdv A outer s H vs Q E hr h=>?_)
 ·£⟨_,_,_,_,_,_,rfl,_,_,_,_,_,_,_⟩:=h;rfl
 ¤nd:=Ct.nd;¤hu:=b9 hr;¤hu0:=Nat.lt_of_succ_lt hu;¤hu8:=Dh hr;£⟨fl,d,as,fs,g,ks,rfl,hF,hFs,hn,hT,hk,T,q⟩:=h;¤m_dict:=G.m_dict;¶⟨_,(A5 (A7 2 nd (AZ (@mq _ hu8) m_dict b_dict (A1 (@Kn _ _ _ (BU (BL ["key"] [] [] trivial trivial) (@Ml _ _ _ _ (A0 1)) (λ_ _ _=>(BE 0 (show List.Nodup (["key"]:List Str) by decide+kernel))) (λ_ _ _=>(@pif0 _)) (λ_ _ _=>(AI (A1 (A0 0) (A1 (AC (A3 0)) (A3 0))))))) (A3 0)))) (A5 (AY (BD (A0 0)) (BS (AW (AJ 3 nd (by first | §Or.inl rfl | §Or.inr rfl)) (AW (AJ 4 nd (by first | §Or.inl rfl | §Or.inr rfl)) (AW (AJ 5 nd (by first | §Or.inl rfl | §Or.inr rfl)) (BO 0))))) (A6 (AE (AB (AR 0) (AG h_law_cost hr (A1 (A0 3) (A1 (A0 5) (A1 (A0 1) (A3 0))))) (AU PySem.F.plainAttrs_dict PySem.F.slot_dict_get PySem.F.type_dict_get (@K4 _ hu) (A0 1) (A1 (AI (A1 (A0 4) (A1 (A8 (AF 0) (A0 3) (A2 0)) (A3 0)))) (A1 (BZ (@jj _) (A2 0)) (A3 0)))) (AA 0)) (A6 (AS (AU PySem.F.plainAttrs_list PySem.F.slot_list_append PySem.F.type_list_append (AV 0) (BC hu (A0 2) (AI (A1 (A0 4) (A1 (A8 (AF 0) (A0 3) (A2 0)) (A3 0))))) (A1 (A8 (AF 0) (A0 3) (A2 0)) (A3 0))))) (AT 0)))) (A6 (AD (A0 2))))),?_⟩;rw[show start ["fits","least","found","rule","place","keys"] [.ref fl,.ref d]=[some (.ref fl),some (.ref d),none,none,none,none] from rfl];clear hu hu0 nd hr;push_cast [K7,Lg];¤sz:=sizeLine_eq;¤hal:=hFs.1;¤hm:=hT.mem;£⟨kvs,hd,hks,nd,hv⟩:=id hT;¤kl:kvs.length=ks.length:=by
  have:=congrArg List.length hks;rw[List.length_map,List.length_map] at this;§this
 ¤ats:∀(i:Nat) (k:List Key) (v:V),kvs[i]?=some (k,v)→∃k',ks[i]?=some k'∧k=kyK k':=λi k v hi=>by
  ¤e:=congrArg (λl=>l[i]?) hks;simp only[List.getElem?_map,hi,Option.map_some] at e;£⟨k',h1,h2⟩:=Option.map_eq_some_iff.mp e.symm;§⟨k',h1,h2.symm⟩
 ¶⟨d,kvs,hd,kvs,hd,λo D hDn=>Kp (λi ys H1=>∃cs ls:List Addr,ys=cs.map V.ref∧Cj H H1 D ks i cs ls) (λi ys H1 H2 s h=>by £⟨cs,ls,h1,h2⟩:=h;§⟨cs,ls,h1,h2.mono s⟩) ae ¥ hDn ⟨[],[],rfl,rfl,rfl,List.nodup_nil,λj k h=>absurd h (Nat.not_lt_zero _)⟩ (λi t k v ys H1 G' K' hi ht hP hys hl2 hS hG hK=>?_) λys H2 hP hl2 hS hD2=>?_⟩
 ·£⟨k',hk',rfl⟩:=ats i k v hi;£⟨cs,ls,rfl,hP⟩:=hP;¤ht:H1 t=some (kyT k'):=ht;push_cast [and_true];¶⟨Nat.zero_le _,λl hl=>⟨by show (2:Nat)≤sizeLine;decide,λc hc=>?_⟩⟩;¤s2:=(aa hl (.lst [])).trans (aa hc (.tup [V.ref t,V.ref l]));¤fl1:upd H d (.frz o (.dT kvs)) l=none:=hS.free hl;¤nld:l≠d:=λz=>by rw[z,ae] at fl1;cases fl1
  ¤fc1:=(aa hl (.lst [])).free hc;¶hK _ _ s2 ⟨cs++[c],ls++[l],by rw[List.map_append];rfl,Cj.snoc (by rw[←kl];§(List.getElem?_eq_some_iff.mp hi).1) hP hk' s2 hl (by rw[af nld] at fl1;§fl1) (ag hys fc1).symm (df ht hys (by ¿z;cases z)) (ag hys hl).symm ae (s2 _ _ ht) (aa hc _ _ _ ae)⟩
 ·£⟨cs,ls,rfl,hP⟩:=hP;rw[kl] at hP;¤S3:=Dr hd hS;¤fz:H2 d=some (.frz o (.dT kvs)):=hS _ _ ae;¤nD:D≠d:=df hD2 fz (by ¿z;cases z);¤kp:∀(b:Addr) (u:HO),(∀o' x,u≠.frz o' x)→H2 b=some u→upd H2 d (.dT kvs) b=some u:=λb u hu e=>by rw[af (df e fz (hu _ _))];§e
  ¤ll:=hP.2.1;¶⟨⟨o,fz⟩,rfl,cs.map V.ref,by rw[af nD];§hD2,(ks.zip ls).map λp=>(kyK p.1,V.ref p.2),by rw[List.length_map,List.length_map,List.length_zip,hP.1,ll,Nat.min_self],λi p hi=>?_,λfd hfd=>?_⟩
  ·rw[List.getElem?_map] at hi;£⟨⟨k,l⟩,hi2,rfl⟩:=Option.map_eq_some_iff.mp hi;£⟨e1,e2⟩:=List.getElem?_zip_eq_some.mp hi2;£⟨c,l',t,h1,h2,_,_,_,_,h7,h8,_⟩:=hP.2.2.2 i k (List.getElem?_eq_some_iff.mp e1).1 e1;£rfl:l'=l:=Option.some.inj (h2.symm.trans e2);§⟨c,by rw[List.getElem?_map,h1];rfl,t,kp _ _ (by ¿_ _ z;cases z) h7,kp _ _ (by ¿_ _ z;cases z) h8⟩
  ·rw[yv _ [] (by rw[List.nil_append,wm ll];§ly (λa b e=>oy e) nd),List.nil_append];¤S4:=S3.trans (aa hfd (.dT ((ks.zip ls).map λp=>(kyK p.1,V.ref p.2))));¤hfd0:=S3.free hfd;¤R4:RcAt (upd (upd H2 d (.dT kvs)) fd (.dT ((ks.zip ls).map λp=>(kyK p.1,V.ref p.2)))) fd ks ls (dz (fs.take 0) g):=⟨ae,ll,λj k l h1 h2=>by
    £⟨c,l',t,g1,g2,_,_,_,_,g7,g8,g9⟩:=hP.2.2.2 j k (List.getElem?_eq_some_iff.mp h1).1 h1;£rfl:l'=l:=Option.some.inj (g2.symm.trans h2);¤g9:=kp _ _ (by ¿_ _ z;cases z) g9;rw[af (ag g9 hfd)];§g9⟩
   ¤lf:∀l∈ls,H l=none:=λl hl=>by
    £⟨j,hj⟩:=List.mem_iff_getElem?.mp hl;¤hjl:j < ks.length:=by rw[←ll];§(List.getElem?_eq_some_iff.mp hj).1
    £⟨_,l',_,_,g2,_,_,_,g6,_⟩:=hP.2.2.2 j _ hjl (List.getElem?_eq_getElem hjl);£rfl:l'=l:=Option.some.inj (g2.symm.trans hj);§g6
   ¤nl:=hP.2.2.1;generalize upd (upd H2 d (.dT kvs)) fd (.dT ((ks.zip ls).map λp=>(kyK p.1,V.ref p.2)))=H4 at S4 R4 ⊢;£⟨P1,eP1⟩:∃P1:Nat→L2.St→Hp→Prop,∀i σ H',P1 i σ H'↔∃v3 v4 v5:Option V,σ=[some (.ref fl),some (.ref d),some (.ref fd),v3,v4,v5]∧ak H H'∧RcAt H' fd ks ls (dz (fs.take i) g):=⟨_,λ_ _ _=>Iff.rfl⟩;¶⟨⟨_,SqL.of (S4 _ _ hF)⟩,dg (xs:=as.map V.ref) P1 ((eP1 _ _ _).mpr ⟨none,none,none,rfl,S4,R4⟩) (λi σ H' _ h=>by £⟨_,_,_,_,s,_⟩:=(eP1 _ _ _).mp h;§SqL.of (s _ _ hF)) ?_ ?_⟩
   ·¿i y σ H5 hy hh;¶ob3 ((eP1 _ _ _).mp hh) λv3 v4 v5 hh=>?_;¤s5:=hh.2.1;¤R5:=hh.2.2;£rfl:=hh.1;clear hh;rw[List.getElem?_map] at hy;£⟨a,ha,rfl⟩:=Option.map_eq_some_iff.mp hy;£⟨f,hfi,ra,hl,_,h3,h4,h5⟩:=(hFs.same s5).get ha;¤hfm:=List.mem_of_getElem? hfi;¤T5:=hT.same s5;¶Cg h3 rfl ?_;push_cast [K8];¶Gm h4 h5 T5.tb ?_;£⟨sa,da,ds,r1,r2,r3⟩:=h4;¤en:=Be hfi g;¶⟨Ii (s5 _ _ hd),au r1 rfl ⟨by show (2:Nat)≤sizeLine;decide,λp hp=>?_⟩⟩;¤s6:=aa hp (.tup [V.int (f.place:Int),V.str f.r.kind]);¤e6:upd H5 p (.tup [V.int (f.place:Int),V.str f.r.kind]) p=some (kyT (f.place,f.r.kind)):=ae;generalize upd H5 p (.tup [V.int (f.place:Int),V.str f.r.kind])=H6 at s6 e6 ⊢;¤T6:=T5.same s6;¤R6:=R5.same s6;¶⟨_,T6.tb.get e6,?_⟩;¤no:(∀k∈ks,¬((f.place,f.r.kind)=k∧cost g f.r.price f.hs=g k))→∀w3 w4 w5,P1 (i+1) [some (.ref fl),some (.ref d),some (.ref fd),w3,w4,w5] H6:=λh w3 w4 w5=>(eP1 _ _ _).mpr ⟨w3,w4,w5,rfl,s5.trans s6,R6.congr λk hk=>by rw[en k,if_neg (h k hk),List.append_nil]⟩;cases e:g (f.place,f.r.kind) with
    | none=>
     ¶⟨rfl,?_⟩;¤nk:(f.place,f.r.kind)∉ks:=λz=>by have:=(hm _).mp z;rw[e] at this;cases this
     rw[if_neg (λz=>by
      cases e2:cost g f.r.price f.hs with
      | none=>rw[e2] at z;§absurd (V.int.inj z) (by decide)
      | some c=>
       £⟨v,hv',_⟩:=T.st (ie f) (List.mem_map.mpr ⟨f,hfm,rfl⟩) c e2;rw[show g (ie f).key=g (f.place,f.r.kind) from rfl,e] at hv';cases hv')]
     §no (λk hk z=>nk (by rw[z.1];§hk)) _ _ _
    | some v=>
     ¤vp:=T.pos _ v e;¤hkin:=(hm (f.place,f.r.kind)).mpr (by rw[e];rfl);¶⟨rfl,?_⟩;¦c:cost g f.r.price f.hs=some v
     ·rw[if_pos (by rw[c];rfl)];¶au (s6 _ _ r1) rfl ⟨by show (2:Nat)≤sizeLine;decide,λp2 hp2=>?_⟩;¤s7:=aa hp2 (.tup [V.int (f.place:Int),V.str f.r.kind]);¤e7:upd H6 p2 (.tup [V.int (f.place:Int),V.str f.r.kind]) p2=some (kyT (f.place,f.r.kind)):=ae;generalize upd H6 p2 (.tup [V.int (f.place:Int),V.str f.r.kind])=H7 at s7 e7 ⊢;¤R7:=R6.same s7;£⟨j,l,hj,hlj,hG,hL⟩:=R7.get nd e7 hkin;¤nle:(dz (fs.take i) g (f.place,f.r.kind)).length≤fs.length:=by
       unfold dz;rw[List.length_map];§Nat.le_trans (List.length_filter_le _ _) (by rw[List.length_take];¡)
      ¶⟨_,hG,av hL,au ((s6.trans s7) _ _ r1) rfl (bb (K:=K) hL (by rw[List.length_map];¡) ((eP1 _ _ _).mpr ⟨_,_,_,rfl,(s5.trans (s6.trans s7)).upd (lf l (List.mem_of_getElem? hlj)) _,?_⟩)).2⟩;§R7.put nd nl hj hlj (by rw[en _,if_pos ⟨rfl,by rw[c,e]⟩]) λk' hk' ne=>by rw[en k',if_neg λz=>ne z.1.symm,List.append_nil]
     ·rw[if_neg (λz=>by
       cases e2:cost g f.r.price f.hs with
       | none=>rw[e2] at z;have:(0:Int)=v:=V.int.inj z;¡
       | some c'=>rw[e2] at z;have:c'=v:=V.int.inj z;rw[e2,this] at c;§c rfl)]
      §no (λk hk z=>by rw[←z.1,e] at z;§c z.2) _ _ _
   ·intro σ H5 hh;¶ob3 ((eP1 _ _ _).mp hh) λv3 v4 v5 hh=>?_;¤s5:=hh.2.1;¤R5:=hh.2.2;£rfl:=hh.1;clear hh;push_cast [and_true];rw[List.length_map,hal,List.take_length] at R5;§q fd ls H5 s5 hfd0 R5
noncomputable abbrev jt:Stmt:=top 31
theorem Bg:az ["deck","least","reaching","found","key","some"] ["deck","least","reaching"] (ah jt):=⟨rfl,rfl,rfl,by decide+kernel,rfl,by decide+kernel,by decide+kernel⟩
theorem Hl (G:Gs w K mg) (h_law_next:Has P w K mg base k "_law_next" ["deck"] gn) (D:Def K mg "_law_any_table" jt ["deck","least","reaching"]):Has P w K mg base (k+1) "_law_any_table" ["deck","least","reaching"] oj:=by
 ¶D.has Bg (λvs H Q E h=>?_) (λf cdv A outer s H vs Q E hr h=>?_)
 ·£⟨_,_,_,_,_,_,_,_,_,_,_,_,rfl,_,_,_,_⟩:=h;rfl
 ¤nd:=Bg.nd;¤hu:=b9 hr;¤hu0:=Nat.lt_of_succ_lt hu;£⟨d,b,ld,rd,ns,n,kinds,rs,ws,g,ks,lx,rfl,hD,hn,hL,q⟩:=h;¤m_len:=G.m_len;¤m_sorted:=G.m_sorted;¶⟨_,(A5 (A7 3 nd (AC (A3 0))) (A5 (AY (BD (AN (@om _ rfl) m_sorted oz (A1 (A0 1) (A3 0)))) (AJ 4 nd (by first | §Or.inl rfl | §Or.inr rfl)) (A5 (A7 5 nd (BC hu (A0 2) (A0 4))) (A6 (AS (AU PySem.F.plainAttrs_list PySem.F.slot_list_append PySem.F.type_list_append (AV 0) (A0 3) (A1 (A4 (@ua _) (A0 4) (AI (A1 (BC hu (A0 1) (A0 4)) (A1 (A8 (AM 0) (A0 5) (A4 (A9 0) (AG h_law_next hr (A1 (A0 0) (A3 0))) (AN (AX 0) m_len cw (A1 (A0 5) (A3 0))))) (A3 0))))) (A3 0))))))) (A6 (AD (A0 3))))),?_⟩;rw[show start ["deck","least","reaching","found","key","some"] [.ref d,.ref ld,.ref rd]=[some (.ref d),some (.ref ld),some (.ref rd),none,none,none] from rfl];clear hu hu0 nd hr;push_cast [gn,pj];¤sz:=sizeLine_eq;¤hkl:=hL.k;¶⟨Nat.zero_le _,λfl hfl=>?_⟩;¤s1:=aa hfl (.lst []);¤f1:upd H fl (.lst []) fl=some (.lst []):=ae;generalize upd H fl (.lst [])=H1 at s1 f1 ⊢;¤L1:=hL.same s1;¤D1:=hD.same s1;¶Bp L1.l hkl λl is ts hp _ key hl=>?_;¤il:is.length=ks.length:=by rw[hp.length_eq,List.length_range]
 ¤s2:=aa hl (.lst (is.map λi=>V.ref (ts.getD i 0)));¤l2:upd H1 l (.lst (is.map λi=>V.ref (ts.getD i 0))) l=some (.lst (is.map λi=>V.ref (ts.getD i 0))):=ae;generalize upd H1 l (.lst (is.map λi=>V.ref (ts.getD i 0)))=H2 at s2 l2 ⊢;¤nfd:fl≠d:=(ag hD.1 hfl).symm;¤nld:l≠d:=(ag D1.1 hl).symm;¤nlf:l≠fl:=(ag f1 hl).symm;¤hm:=hL.l.mem;¤nd:=hL.l.nd;£⟨P1,eP1⟩:∃P1:Nat→L2.St→Hp→Prop,∀i σ H',P1 i σ H'↔∃(xs:List V) (v4 v5:Option V),σ=[some (.ref d),some (.ref ld),some (.ref rd),some (.ref fl),v4,v5]∧(∀c o,c≠d→c≠fl→H2 c=some o→H' c=some o)∧H' d=some (.lst [.ref b,.int ((n+i:Nat):Int)])∧H' fl=some (.lst xs)∧cz H' xs i:=⟨_,λ_ _ _=>Iff.rfl⟩;¤toB:∀{H':Hp},(∀c o,c≠d→c≠fl→H2 c=some o→H' c=some o)→aq d H H':=λs c o n h=>s c o n (ag h hfl) ((s1.trans s2) c o h);¶⟨⟨_,SqL.of l2⟩,dg (xs:=is.map λi=>V.ref (ts.getD i 0)) P1 ((eP1 _ _ _).mpr ⟨[],none,none,rfl,λc o _ _ h=>h,(s1.trans s2) _ _ hD.1,s2 _ _ f1,cz.nil _ _⟩) (λi σ H' _ h=>by £⟨_,_,_,_,s,_⟩:=(eP1 _ _ _).mp h;§SqL.of (s _ _ nld nlf l2)) ?_ ?_⟩
 ·¿i y σ H5 hy hh;¶ob3 ((eP1 _ _ _).mp hh) λxs v4 v5 hh=>?_;¤s5:=hh.2.1;¤d5:=hh.2.2.1;¤f5:=hh.2.2.2.1;¤T5:=hh.2.2.2.2;£rfl:=hh.1;clear hh;rw[List.getElem?_map] at hy;£⟨u,hu,rfl⟩:=Option.map_eq_some_iff.mp hy;¤hil:i < ks.length:=by rw[←il];§(List.getElem?_eq_some_iff.mp hu).1
  ¤hul:u < ks.length:=List.mem_range.mp (hp.mem_iff.mp (List.mem_of_getElem? hu));¤k2:=s2 _ _ (key u hul);¤kin:ks.getD u (0,"")∈ks:=by rw[List.getD_eq_getElem?_getD,List.getElem?_eq_getElem hul];§List.getElem_mem hul
  generalize ks.getD u (0,"")=k0 at k2 kin;generalize ts.getD u 0=t at k2;£⟨v,hv⟩:=Option.isSome_iff_exists.mp ((hm k0).mp kin);¤B5:=toB s5;¤D5:cu H5 d b ns (n+i):=hD.next B5 d5
  ¤L5:=hL.b8 hD B5;¤k5:H5 t=some (kyT k0):=s5 _ _ (df k2 ((s1.trans s2) _ _ hD.1) (by ¿z;cases z)) (df k2 (s2 _ _ f1) (by ¿z;cases z)) k2;push_cast [and_true];£⟨j,lj,hj,hlj,hG1,hL1⟩:=L5.r.get nd k5 kin;¶⟨_,hG1,av f5,_,L5.l.tb.val k5 hv,⟨d,b,ns,n+i,rfl,D5,¥,λc H6 s6 d6=>?_⟩⟩;¤np:=Hb hL.bk hL.T hv;¤l6:=(L5.r.b8 D5 s6).2.2 j k0 lj hj hlj;generalize dz (i5 kinds rs ws) g k0=nms at np l6;¤ip:(0:Int) < ((nms.map V.str).length:Nat):=by rw[List.length_map];¡
  £⟨x,hx,hxm⟩:=b7 (nms.map V.str) (c % ((nms.map V.str).length:Nat)) (Int.emod_nonneg _ ¥) (Int.emod_lt_of_pos _ ip);£⟨nm,_,rfl⟩:=List.mem_map.mp hxm;¶⟨_,.inl (SqL.of l6),ip,ao l6 hx ⟨by show (2:Nat)≤sizeLine;decide,λp2 hp2=>?_⟩⟩;¤k6:=s6 _ _ (df k5 d5 (by ¿z;cases z)) k5;¤s7:=aa hp2 (.tup [V.int v,V.str nm]);¶oq (s7 _ _ k6) ae (by show (4:Nat)≤sizeLine;decide) λpc H8 s8 h8=>?_;¤s78:=s7.trans s8;¤f8:=s78 _ _ (s6 _ _ nfd f5);¤il5:=T5.1;¶(bb (K:=K) f8 ¥ ((eP1 _ _ _).mpr ⟨xs++[.ref pc],_,_,rfl,λc o n1 n2 h=>?_,?_,ae,?_⟩)).2
  ·rw[af n2];§s78 _ _ (s6 _ _ n1 (s5 _ _ n1 n2 h))
  ·rw[af nfd.symm];§s78 _ _ d6
  ·¤tk:TK H5 (upd H8 fl (.lst (xs++[.ref pc]))):=λa ys e=>by
    ¤e8:=s78 _ _ (TK.b8 D5 s6 _ _ e);rw[af (df e8 f8 (by ¿z;cases z))];§e8
   ¶(T5.tk tk).snoc ⟨pc,⟨k0.1,k0.2,v,nm⟩,rfl,?_⟩;rw[af (df h8 f8 (by ¿z;cases z))];§h8
 ·intro σ H5 hh;¶ob3 ((eP1 _ _ _).mp hh) λxs v4 v5 hh=>?_;¤s5:=hh.2.1;¤d5:=hh.2.2.1;¤f5:=hh.2.2.2.1;¤T5:=hh.2.2.2.2;£rfl:=hh.1;clear hh;rw[List.length_map,il] at d5 T5;push_cast [and_true];§q fl (n+ks.length) H5 (toB s5) d5 (Nat.le_refl _) hfl ⟨xs,f5,T5⟩
noncomputable abbrev jw:Stmt:=top 34
theorem Co:az ["table"] ["table"] (ah jw):=⟨rfl,rfl,rfl,by decide+kernel,rfl,by decide+kernel,by decide+kernel⟩
theorem Iw (G:Gs w K mg) (D:Def K mg "_law_lesser" jw ["table"]):Has P w K mg base (k+1) "_law_lesser" ["table"] oh:=by
 ¶D.has Co (λvs H Q E h=>?_) (λf cdv A outer s H vs Q E hr h=>?_)
 ·£⟨_,_,rfl,_,_,_⟩:=h;rfl
 ¤nd:=Co.nd;¤hu:=b9 hr;¤hu0:=Nat.lt_of_succ_lt hu;£⟨tl,m,rfl,hT,hm,q⟩:=h;¤m_max:=G.m_max;¶⟨_,(A6 (AD (BU (BL ["row"] [] [] trivial trivial) (BD (A0 0)) (λ_ _ _=>(BE 0 (show List.Nodup (["row"]:List Str) by decide+kernel))) (λ_ _ _=>(@pif0 _)) (λ_ _ _=>(A4 (@ua _) (A4 (@ua _) (B6 (@ik _) (A0 0) (B7 0) (B9 (A2 0))) (AI (A1 (AN (@Hh _ rfl) m_max b_max (A1 (A2 0) (A1 (A4 (B0 0) (A8 (@Nx _ K rfl) (A0 0) (A2 0)) (A2 0)) (A3 0)))) (A3 0)))) (B6 (@ik _) (A0 0) (B9 (A2 0)) (B7 0))))))),?_⟩;rw[show start ["table"] [.ref tl]=[some (.ref tl)] from rfl];clear hu hu0 nd hr;push_cast [and_true];¤sz:=sizeLine_eq;£⟨xs,h1,h2⟩:=hT;¤xl:=h2.1;¶⟨⟨_,SqL.of h1⟩,λD hD=>Bc (xs:=xs) (λi ys H'=>cz H' ys i) (λi ys H' H'' tk h=>h.tk tk) (SqL.of h1) ¥ hD (cz.nil _ _) (λi x ys HA G' K' hx hP hl2 hS' hG hK'=>?_) λys HA hP hl2 hS' hD2=>?_⟩
 ·£⟨a,t,rfl,ha⟩:=h2.2 x (List.mem_of_getElem? hx);¤ha:=hS' _ _ ha;push_cast [and_true];¶⟨a,_,rfl,ha,λp1 H7 s7 h7=>?_⟩;rw[cut2] at h7;¤a7:=s7 _ _ ha;¶au a7 rfl ⟨by show (1:Nat)≤sizeLine;decide,λp2 hp2=>?_⟩;generalize (if t.price - 1 > 1 then t.price - 1 else 1)=pr at hp2 ⊢;¤s8:=aa hp2 (.tup [V.int pr]);¶oq (s8 _ _ h7) ae (by show (3:Nat)≤sizeLine;decide) λp3 H9 s9 h9=>⟨a,_,rfl,(s8.trans s9) _ _ a7,λp4 HB sB hB=>?_⟩;rw[cut3t] at hB;¶oq (sB _ _ h9) hB (by show (4:Nat)≤sizeLine;decide) λp5 HC sC hC=>?_;¤S:=s7.trans (s8.trans (s9.trans (sB.trans sC)));§hK' _ _ S ((hP.same S).snoc ⟨p5,⟨t.place,t.kind,pr,t.name⟩,rfl,hC⟩)
 ·§q D HA hS' hD ⟨ys,hD2,hP.mono xl⟩
noncomputable abbrev uj:Stmt:=top 33
theorem J7:az ["table","least","reaching","row"] ["table","least","reaching"] (ah uj):=⟨rfl,rfl,rfl,by decide+kernel,rfl,by decide+kernel,by decide+kernel⟩
theorem Qv (G:Gs w K mg) (D:Def K mg "_law_due" uj ["table","least","reaching"]):Has P w K mg base (k+1) "_law_due" ["table","least","reaching"] zp:=by
 ¶D.has J7 (λvs H Q E h=>?_) (λf cdv A outer s H vs Q E hr h=>?_)
 ·£⟨_,_,_,_,_,_,_,_,_,_,_,rfl,_,_,_,_,_⟩:=h;rfl
 ¤nd:=J7.nd;¤hu:=b9 hr;¤hu0:=Nat.lt_of_succ_lt hu;¤hu8:=Dh hr;£⟨tl,ld,rd,ts,tab,kinds,rs,ws,g,ks,lx,rfl,hF,hTr,htl,hL,q⟩:=h;¤m_sorted:=G.m_sorted;¶⟨_,(A5 (AE (AB (E1 hu8) (BU (BL ["row"] [] [] trivial trivial) (BD (A0 0)) (λ_ _ _=>(BE 0 (show List.Nodup (["row"]:List Str) by decide+kernel))) (λ_ _ _=>(@pif0 _)) (λ_ _ _=>(B6 (@ik _) (A0 0) (B7 0) (B9 (A2 0))))) (AN (@om _ rfl) m_sorted oz (A1 (A0 1) (A3 0))) (AA 0)) (A6 (AD (BB 0))) (AT 0)) (A5 (AY (BD (A0 0)) (AJ 3 nd (by first | §Or.inl rfl | §Or.inr rfl)) (A6 (AE (BA (BY (AB (@Cs _) (A8 (AF 0) (A0 3) (A2 0)) (BC hu (A0 1) (B6 (@ik _) (A0 3) (B7 0) (B9 (A2 0)))) (AA 0)) (C3 (BH (@je _) (A8 (AF 0) (A0 3) (A2 0)) (BC hu (A0 2) (B6 (@ik _) (A0 3) (B7 0) (B9 (A2 0)))))))) (A6 (AD (BB 0))) (AT 0)))) (A6 (AD (BB 0))))),?_⟩;rw[show start ["table","least","reaching","row"] [.ref tl,.ref ld,.ref rd]=[some (.ref tl),some (.ref ld),some (.ref rd),none] from rfl];clear hu hu0 nd hr;push_cast [and_true];¤sz:=sizeLine_eq;¤tl1:=hTr.1;¶⟨⟨_,SqL.of hF⟩,λD hD=>Bc (xs:=ts.map V.ref) (λi ys H'=>∃cs:List Addr,ys=cs.map V.ref∧iz H' cs ((tab.take i).map Ep)) (λi ys H' H'' tk h=>by £⟨cs,h1,h2⟩:=h;§⟨cs,h1,zk h2 tk⟩) (SqL.of hF) (by rw[List.length_map];¡) hD ⟨[],rfl,Jy _⟩ (λi x ys HA G' K' hx hP hl2 hS' hG hK'=>?_) λys HA hP hl2 hS' hD2=>?_⟩
 ·rw[List.getElem?_map] at hx;£⟨a,ha,rfl⟩:=Option.map_eq_some_iff.mp hx;¤hil:i < tab.length:=by rw[←tl1];§(List.getElem?_eq_some_iff.mp ha).1
  £⟨a',ha',e⟩:=hTr.2 i _ (List.getElem?_eq_getElem hil);£rfl:a'=a:=Option.some.inj (ha'.symm.trans ha);£⟨cs,rfl,hc⟩:=hP;push_cast [and_true];¶⟨a',_,rfl,hS' _ _ e,λp1 H7 s7 h7=>hK' _ _ s7 ⟨cs++[p1],by rw[List.map_append];rfl,?_⟩⟩;rw[cut2] at h7;rw[List.take_add_one,List.getElem?_eq_getElem hil,List.map_append];§Hi (zk hc (TK.of s7)) h7
 ·£⟨cs,rfl,hc⟩:=hP;rw[List.length_map,tl1,List.take_length] at hc;¤L1:=hL.same hS';¶Bp L1.l hL.k λl is us hp hs key hl=>?_;¤kr:=Io hL.bk hL.T L1.l.nd L1.l.mem hp hs;¤s2:=aa hl (.lst (is.map λi=>V.ref (us.getD i 0)));¤l2:upd HA l (.lst (is.map λi=>V.ref (us.getD i 0))) l=some (.lst (is.map λi=>V.ref (us.getD i 0))):=ae;generalize upd HA l (.lst (is.map λi=>V.ref (us.getD i 0)))=H2 at s2 l2 ⊢;¤tp:iz H2 (is.map λi=>us.getD i 0) ((rowsOf kinds rs ws g).map Ce):=by
   ¤e:(rowsOf kinds rs ws g).map Ce=is.map λi=>kyK (ks.getD i (0,"")):=by
    have:=congrArg (List.map kyK) kr;rw[List.map_map,List.map_map] at this;§this.symm
   rw[e];¶⟨by rw[List.length_map,List.length_map],λj x hx=>?_⟩;rw[List.getElem?_map] at hx;£⟨u,hu,rfl⟩:=Option.map_eq_some_iff.mp hx;§⟨us.getD u 0,by rw[List.getElem?_map,hu];rfl,s2 _ _ (key u (List.mem_range.mp (hp.mem_iff.mp (List.mem_of_getElem? hu))))⟩
  ¤S2:=hS'.trans s2;¶⟨D,l,cs,is.map λi=>us.getD i 0,tab.map Ep,(rowsOf kinds rs ws g).map Ce,rfl,rfl,s2 _ _ hD2,by rw[l2,List.map_map];rfl,zk hc (TK.of s2),tp,?_⟩;¦e:tab.map Ep=(rowsOf kinds rs ws g).map Ce
  ·¶ifN (by simp[e]) ?_;£⟨le,ke⟩:=Jf e;£⟨P1,eP1⟩:∃P1:Nat→L2.St→Hp→Prop,∀i σ H',P1 i σ H'↔∃v3:Option V,σ=[some (.ref tl),some (.ref ld),some (.ref rd),v3]∧ak H H'∧∀(j:Nat) (t:Tr) (r:Rw),j < i→tab[j]?=some t→(rowsOf kinds rs ws g)[j]?=some r→trOk t r:=⟨_,λ_ _ _=>Iff.rfl⟩;¶⟨⟨_,SqL.of (S2 _ _ hF)⟩,dg (xs:=ts.map V.ref) P1 ((eP1 _ _ _).mpr ⟨none,rfl,S2,λj t r h=>absurd h (Nat.not_lt_zero _)⟩) (λi σ H' _ h=>by £⟨_,_,s,_⟩:=(eP1 _ _ _).mp h;§SqL.of (s _ _ hF)) ?_ ?_⟩
   ·¿i y σ H5 hy hh;£⟨v3,rfl,s5,ok5⟩:=(eP1 _ _ _).mp hh;rw[List.getElem?_map] at hy;£⟨a,ha,rfl⟩:=Option.map_eq_some_iff.mp hy;¤hil:i < tab.length:=by rw[←tl1];§(List.getElem?_eq_some_iff.mp ha).1
    ¤hti:tab[i]?=some tab[i]:=List.getElem?_eq_getElem hil;£⟨a',ha',e4⟩:=hTr.2 i _ hti;£rfl:a'=a:=Option.some.inj (ha'.symm.trans ha);¤hri:(rowsOf kinds rs ws g)[i]?=some ((rowsOf kinds rs ws g)[i]'¥):=List.getElem?_eq_getElem ¥;£⟨e1,e2⟩:=ke i _ _ hti hri;generalize tab[i]=t at hti e4 e1 e2;generalize (rowsOf kinds rs ws g)[i]'¥=r at hri e1 e2;£⟨m1,m2,m3⟩:=vb (List.mem_of_getElem? hri);¤no:¬trOk t r→∀H',ak H H'→Q (.bl false) H':=λh H' s'=>q false H' s' ⟨(λz=>nomatch z),λz=>absurd (z.2 i t r hti hri) h⟩;push_cast [and_true];¤kin:ee r∈ks:=(hL.l.mem _).mpr (by show (g (r.place,r.kind)).isSome=true;rw[m2];rfl);¶au (s5 _ _ e4) rfl ⟨a',_,rfl,s5 _ _ e4,λp1 H6 s6 h6=>?_⟩;rw[cut2,e1,e2] at h6;¤S6:=s5.trans s6;¶⟨_,(hL.same S6).l.tb.val (k:=ee r) h6 m2,rfl,?_⟩;¦c1:t.price=r.price
    ·¶ifN (by simp[c1]) (au (S6 _ _ e4) rfl ⟨a',_,rfl,S6 _ _ e4,λp2 H7 s7 h7=>?_⟩);rw[cut2,e1,e2] at h7;¤S7:=S6.trans s7;£⟨j,lj,hj,hlj,hG,hLj⟩:=(hL.same S7).r.get (k:=ee r) hL.l.nd h7 kin;rw[show dz (i5 kinds rs ws) g (ee r)=r.names by unfold ee;rw[Ay m2 m1,←m3]] at hLj;¶⟨_,hG,lj,r.names.map V.str,rfl,.inl (SqL.of hLj),rfl,List.all_eq_true.mpr (λx hx=>by £⟨z,_,rfl⟩:=List.mem_map.mp hx;rfl),?_⟩;¤ei:inV (.str t.name) (r.names.map V.str)=decide (t.name∈r.names):=o9 (kinds:=r.names) ⟨Sum.inr t.name,rfl⟩;¦m:t.name∈r.names
     ·¶ifN (by rw[ei];simp[m]) ?_;¶(eP1 _ _ _).mpr ⟨_,rfl,S7,λj t' r' hj ht hr'=>?_⟩;¦c2:j < i
      ·§ok5 j t' r' c2 ht hr'
      ·£rfl:j=i:=by ¡
       £rfl:t=t':=Option.some.inj (hti.symm.trans ht);£rfl:r=r':=Option.some.inj (hri.symm.trans hr');§⟨e1,e2,c1,m⟩
     ·¶ifY (by rw[ei];simp[m]) ?_;§no (λz=>m z.2.2.2) _ S7
    ·¶ifY (by simp[c1]) ?_;§no (λz=>c1 z.2.2.1) _ S6
   ·intro σ H5 hh;£⟨v3,rfl,s5,ok5⟩:=(eP1 _ _ _).mp hh;push_cast [and_true];¶q true H5 s5 ⟨λ_=>⟨le,λj t r h1 h2=>ok5 j t r ?_ h1 h2⟩,λ_=>rfl⟩;rw[List.length_map,tl1];§(List.getElem?_eq_some_iff.mp h1).1
  ·¶ifY (by simp[e]) ?_;§q false _ S2 ⟨(λz=>nomatch z),λz=>absurd z.keys e⟩
noncomputable abbrev ic:Stmt:=top 32
theorem yg:az ["deck","table","book","names","cell","way","more","at","place","kind","price","name","row","there","some"] ["deck","table","book","names"] (ah ic):=⟨rfl,rfl,rfl,by decide+kernel,rfl,by decide+kernel,by decide+kernel⟩
theorem hasChanged (G:Gs w K mg) (h_law_next:Has P w K mg base k "_law_next" ["deck"] gn) (D:Def K mg "_law_changed" ic ["deck","table","book","names"]):Has P w K mg base (k+1) "_law_changed" ["deck","table","book","names"] lz:=by
 ¶D.has yg (λvs H Q E h=>?_) (λf cdv A outer s H vs Q E hr h=>?_)
 ·£⟨_,_,_,_,_,_,_,_,_,_,_,rfl,_,_,_,_,_,_,_,_,_⟩:=h;rfl
 ¤nd:=yg.nd;¤hu:=b9 hr;¤hu0:=Nat.lt_of_succ_lt hu;£⟨d,b,tl,bt,nl,ns,n,m,kinds,rs,zs,rfl,hD,hn,hT,hm,hB,bk,hr1,hN,q⟩:=h;¤m_len:=G.m_len;¤m_list:=G.m_list;¤m_sorted:=G.m_sorted;¶⟨_,(A5 (A7 4 nd (AG h_law_next hr (A1 (A0 0) (A3 0)))) (A5 (A7 5 nd (A4 (A9 0) (A0 4) (A2 0))) (A5 (A7 6 nd (A4 (AQ 0) (A0 4) (A2 0))) (A5 (AE (AB (@Nb _ hu0) (A0 1) (AC (A3 0)) (AA 0)) (A6 (AD (AC (A1 (AI (A1 (A4 (A9 0) (A0 6) (A2 0)) (A1 (A8 (AF 0) (A8 (AF 0) (A0 2) (A2 0)) (A2 0)) (A1 (A4 (AK 0) (A2 0) (A4 (A9 0) (A0 6) (A2 0))) (A1 (A8 (AF 0) (A8 (AF 0) (A8 (AF 0) (A0 2) (A2 0)) (A2 0)) (A2 0)) (A3 0)))))) (A3 0))))) (AT 0)) (A5 (A7 7 nd (A4 (A9 0) (A0 6) (AN (AX 0) m_len cw (A1 (A0 1) (A3 0))))) (A5 (C7 (A8 (AM 0) (A0 1) (A0 7)) (BS (AW (AJ 8 nd (by first | §Or.inl rfl | §Or.inr rfl)) (AW (AJ 9 nd (by first | §Or.inl rfl | §Or.inr rfl)) (AW (AJ 10 nd (by first | §Or.inl rfl | §Or.inr rfl)) (AW (AJ 11 nd (by first | §Or.inl rfl | §Or.inr rfl)) (BO 0))))))) (BI (AE (AB (AR 0) (A0 5) (A2 0) (AA 0)) (A6 (A7 12 nd (AI (A1 (A4 (AK 0) (A0 8) (A8 (AM 0) (AC (A1 (A2 0) (A1 (BZ (@jj _) (A2 0)) (A1 (A2 0) (A3 0))))) (A4 (A9 0) (A0 6) (A2 0)))) (A1 (A0 9) (A1 (A0 10) (A1 (A0 11) (A3 0)))))))) (A6 (AE (AB (AR 0) (A0 5) (A2 0) (AA 0)) (A6 (A7 12 nd (AI (A1 (A0 8) (A1 (A8 (AM 0) (AC (A1 (A8 (AF 0) (A8 (AF 0) (A0 2) (A2 0)) (A4 (A9 0) (A4 (AQ 0) (A0 6) (A2 0)) (AN (AX 0) m_len cw (A1 (A8 (AF 0) (A0 2) (A2 0)) (A3 0))))) (A1 (A8 (AM 0) (A0 3) (A2 0)) (A3 0)))) (A4 (AQ 0) (A4 (A9 0) (A0 6) (A2 0)) (A2 0))) (A1 (A0 10) (A1 (A0 11) (A3 0)))))))) (A6 (AE (AB (AR 0) (A0 5) (A2 0) (AA 0)) (A6 (A7 12 nd (AI (A1 (A0 8) (A1 (A0 9) (A1 (A4 (AK 0) (A0 10) (A8 (AM 0) (AC (A1 (A2 0) (A1 (BZ (@jj _) (A2 0)) (A1 (A4 (@iu _) (A2 0) (A2 0)) (A1 (A4 (B0 0) (A2 0) (A0 10)) (A3 0)))))) (A4 (A9 0) (A4 (AQ 0) (A0 6) (A2 0)) (A2 0)))) (A1 (A0 11) (A3 0)))))))) (A6 (AE (AB (@ni _) (A0 5) (A2 0) (AA 0)) (A6 (A7 12 nd (AI (A1 (A0 8) (A1 (A0 9) (A1 (A0 10) (A1 (A8 (AM 0) (AC (A1 (A8 (AF 0) (A8 (AF 0) (A8 (AF 0) (A0 2) (A2 0)) (A4 (A9 0) (A4 (AQ 0) (A0 6) (A2 0)) (AN (AX 0) m_len cw (A1 (A8 (AF 0) (A0 2) (A2 0)) (A3 0))))) (A2 0)) (A1 (A0 9) (A3 0)))) (A4 (AQ 0) (A4 (A9 0) (A0 6) (A2 0)) (A2 0))) (A3 0)))))))) (A6 (AE (AB (AR 0) (A0 5) (A2 0) (AA 0)) (A6 (AD (A4 (@mz _) (B6 (BN 0) (A0 1) (B7 0) (B9 (A0 7))) (B6 (BN 0) (A0 1) (B9 (A4 (AK 0) (A0 7) (A2 0))) (B7 0))))) (A6 (AE (AB (AR 0) (A0 5) (A2 0) (AA 0)) (A6 (AD (A4 (@mz _) (A4 (@mz _) (B6 (BN 0) (A0 1) (B7 0) (B9 (A0 7))) (AC (A1 (A8 (AM 0) (A0 1) (A0 7)) (A3 0)))) (B6 (BN 0) (A0 1) (B9 (A0 7)) (B7 0))))) (A6 (AE (AB (AR 0) (A0 5) (A2 0) (AA 0)) (A5 (A7 13 nd (A4 (A9 0) (A4 (AK 0) (A0 7) (A2 0)) (AN (AX 0) m_len cw (A1 (A0 1) (A3 0))))) (A5 (A7 14 nd (AZ (@ow _) m_list Dt (A1 (A0 1) (A3 0)))) (A5 (C7 (AI (A1 (A8 (AM 0) (A0 1) (A0 13)) (A1 (A8 (AM 0) (A0 1) (A0 7)) (A3 0)))) (BS (AW (C8 (A0 14) (A0 7) (@set_list _)) (AW (C8 (A0 14) (A0 13) (@set_list _)) (BO 0))))) (A6 (AD (A0 14)))))) (A6 (AD (AN (@og _) m_sorted oz (A1 (A4 (@mz _) (A0 1) (AC (A1 (AI (A1 (A4 (A9 0) (A4 (AQ 0) (A0 6) (A2 0)) (A2 0)) (A1 (A8 (AF 0) (A8 (AF 0) (A0 2) (A2 0)) (A4 (A9 0) (A0 6) (AN (AX 0) m_len cw (A1 (A8 (AF 0) (A0 2) (A2 0)) (A3 0))))) (A1 (A4 (AK 0) (A2 0) (A4 (A9 0) (A0 6) (A2 0))) (A1 (A0 11) (A3 0)))))) (A3 0)))) (A3 0)))))))))))))))))) (A6 (AD (A4 (@mz _) (A4 (@mz _) (B6 (BN 0) (A0 1) (B7 0) (B9 (A0 7))) (AC (A1 (A0 12) (A3 0)))) (B6 (BN 0) (A0 1) (B9 (A4 (AK 0) (A0 7) (A2 0))) (B7 0)))))))))))),?_⟩;rw[show start ["deck","table","book","names","cell","way","more","at","place","kind","price","name","row","there","some"] [.ref d,.ref tl,.ref bt,.ref nl]=[some (.ref d),some (.ref tl),some (.ref bt),some (.ref nl),none,none,none,none,none,none,none,none,none,none,none] from rfl];clear hu hu0 nd hr;push_cast [and_true];¤sz:=sizeLine_eq;¤ntd:=hT.ne hD;£⟨xs,x1,x2⟩:=hT;¶⟨d,b,ns,n,rfl,hD,¥,λc H1 s1 d1=>?_⟩;¤t1:H1 tl=some (.lst xs):=s1 _ _ ntd x1;¤X1:cz H1 xs m:=x2.tk (TK.b8 hD s1);¤B1:=hB.keep (dv hD s1);¤N1:=hN.b8 hD s1;¶⟨by decide,by decide,by decide,Nat.zero_le _,λp hp=>?_⟩;¤s2:=aa hp (.lst []);¤p2:upd H1 p (.lst []) p=some (.lst []):=ae;generalize upd H1 p (.lst [])=H2 at s2 p2 ⊢;¤t2:=s2 _ _ t1;¤X2:=X1.same s2;¤N2:=N1.same s2;£⟨kt,rt,ra,b1,b2,b3,b4⟩:=B1.same s2;¤q2:∀(l:Addr) (H':Hp),ak H2 H'→H2 l=none→TabAt H' l (2*m+1)→Q (.ref l) H':=λl H' s' hl h=>q l H' (s1.trans (aq.of (s2.trans s'))) ((s2.trans s') _ _ d1) (s1.free d1 (s2.free hl)) h;clear q s1 d1 hp t1 X1 B1 N1 s2 H1 x1 x2 hB hN hD;¤kp:0 < kinds.length:=by
  have:=bk.rk _ (List.getElem_mem (show 0 < rs.length by ¡));§List.length_pos_of_mem this
 ¤al:=b4.1;¤kn:∀i:Int,∃z,atI (kinds.map V.str) (i % ((kinds.map V.str).length:Nat))=some (.str z):=λi=>by
  ¤ip:(0:Int) < ((kinds.map V.str).length:Nat):=by rw[List.length_map];¡
  £⟨x,hx,hxm⟩:=b7 (kinds.map V.str) (i % ((kinds.map V.str).length:Nat)) (Int.emod_nonneg _ ¥) (Int.emod_lt_of_pos _ ip);£⟨z,_,rfl⟩:=List.mem_map.mp hxm;§⟨z,hx⟩
 ¤rn:∀(i:Int) (h0:0≤i) (h1:i < ((ra.map V.ref).length:Nat)),∃(a:Addr) (r:Rl),atI (ra.map V.ref) i=some (.ref a)∧fj H2 a r:=λi h0 h1=>by
  £⟨x,hx,hxm⟩:=b7 (ra.map V.ref) i h0 h1;£⟨a,ha,rfl⟩:=List.mem_map.mp hxm;£⟨j,hj⟩:=List.mem_iff_getElem?.mp ha;¤hjl:j < rs.length:=by rw[←al];§(List.getElem?_eq_some_iff.mp hj).1
  £⟨a',h1',h2'⟩:=b4.2 j _ (List.getElem?_eq_getElem hjl);£rfl:a'=a:=Option.some.inj (h1'.symm.trans hj);§⟨a',_,hx,h2'⟩
 ¶⟨tl,p,xs,rfl,rfl,SqL.of t2,SqL.of p2,?_⟩;¦e0:xs.isEmpty=true
 ·¶ifY (by simp[e0]) ?_;£⟨z,hz⟩:=kn 0;rw[Int.zero_emod] at hz;£⟨a,r,ha,sa,da,ds,r1,r2,r3⟩:=rn 0 ¥ (by rw[List.length_map];¡);¶au b1 rfl (au b2 hz (au b1 rfl (au b3 ha (au r1 rfl ⟨by show (4:Nat)≤sizeLine;decide,λp3 hp3=>⟨by show (1:Nat)≤sizeLine;decide,λp4 hp4=>?_⟩⟩))));¤s3:=aa hp3 (.tup [V.int (c / 9 % 3),V.str z,V.int (1+c / 9 % 9),V.str r.name]);¤s4:=aa hp4 (.lst [V.ref p3]);§q2 p4 _ (s3.trans s4) (s3.free hp4) ⟨_,ae,(cz.one ⟨p3,⟨c / 9 % 3,z,1+c / 9 % 9,r.name⟩,rfl,s4 _ _ ae⟩).mono ¥⟩
 ¶ifN (by simpa using e0) ?_;¤xp:0 < xs.length:=by
  cases xs with
  | nil=>§absurd rfl e0
  | cons _ _=>§Nat.succ_pos _
 ¤ip:(0:Int) < (xs.length:Nat):=by ¡
 ¤row:∀i:Int,0≤i→i < (xs.length:Nat)→∃(a:Addr) (t:Tr),atI xs i=some (.ref a)∧H2 a=some (.tup [.int t.place,.str t.kind,.int t.price,.str t.name]):=λi h0 h1=>by
  £⟨x,hx,hxm⟩:=b7 xs i h0 h1;£⟨a,t,rfl,ha⟩:=X2.2 x hxm;§⟨a,t,hx,ha⟩
 £⟨a,t,ha,h4⟩:=row (c / 9 % (xs.length:Nat)) (Int.emod_nonneg _ ¥) (Int.emod_lt_of_pos _ ip);¶⟨xs,.inl (SqL.of t2),ip,ao t2 ha (Ck h4 rfl ?_)⟩;generalize hat:c / 9 % (xs.length:Nat)=at' at ha ⊢;generalize c / 9=more at hat ⊢;generalize c % 9=way;¤three:∀(H5:Hp) (pr p3 p4:Addr) (hi:Int),ak H2 H5→qo H5 (.ref pr)→H5 p3=none→upd H5 p3 (.lst (cn xs none (some at'))) p4=none→rCat (V.ref p3) (V.ref p4) (upd (upd H5 p3 (.lst (cn xs none (some at')))) p4 (.lst [V.ref pr])) λx H1=>∃x_1,SqL K H1 tl x_1∧∀p,H1 p=none→rCat x (V.ref p) (upd H1 p (.lst (cn x_1 (some hi) none))) Q:=λH5 pr p3 p4 hi s5 R5 hp3 hp4=>by
  ¤s3:=aa hp3 (.lst (cn xs none (some at')));¤s4:=aa hp4 (.lst [V.ref pr]);¤c1:=dm xs none (some at');¤c2:=dm xs (some hi) none;¤xm:=X2.1;¶⟨p3,p4,_,_,rfl,rfl,s4 _ _ ae,ae,by rw[List.length_singleton];¡,λp6 hp6=>?_⟩;¤s6:=aa hp6 (.lst (cn xs none (some at')++[V.ref pr]));¤S6:=s5.trans (s3.trans (s4.trans s6));¤e6:upd (upd (upd H5 p3 (.lst (cn xs none (some at')))) p4 (.lst [V.ref pr])) p6 (.lst (cn xs none (some at')++[V.ref pr])) p6=some (.lst (cn xs none (some at')++[V.ref pr])):=ae;¤R6:=R5.tk (TK.of (s3.trans (s4.trans s6)));generalize upd (upd (upd H5 p3 (.lst (cn xs none (some at')))) p4 (.lst [V.ref pr])) p6 (.lst (cn xs none (some at')++[V.ref pr]))=H6 at S6 e6 R6 ⊢;¶⟨xs,SqL.of (S6 _ _ t2),λp7 hp7=>?_⟩;¤s7:=aa hp7 (.lst (cn xs (some hi) none));¶⟨p6,p7,_,_,rfl,rfl,s7 _ _ e6,ae,by rw[List.length_append,List.length_singleton];¡,λp8 hp8=>?_⟩;¤s8:=aa hp8 (.lst ((cn xs none (some at')++[V.ref pr])++cn xs (some hi) none));¤S:=S6.trans (s7.trans s8);§q2 p8 _ S ((S6.trans s7).free hp8) ⟨_,ae,((((X2.cut none (some at')).same S).append (cz.one (R6.tk (TK.of (s7.trans s8))))).append ((X2.cut (some hi) none).same S)).mono ¥⟩
 ¶fb (λσ H'=>∃(pr:Addr) (v13 v14:Option V),σ=[some (.ref d),some (.ref tl),some (.ref bt),some (.ref nl),some (.int c),some (.int way),some (.int more),some (.int at'),some (.int t.place),some (.str t.kind),some (.int t.price),some (.str t.name),some (.ref pr),v13,v14]∧ak H2 H'∧qo H' (.ref pr)) ?_ ?_
 ·push_cast [and_true];¤fin:∀(H':Hp) (p:Addr) (t':Tr),ak H2 H'→H' p=none→ak H2 (upd H' p (.tup [V.int t'.place,V.str t'.kind,V.int t'.price,V.str t'.name]))∧qo (upd H' p (.tup [V.int t'.place,V.str t'.kind,V.int t'.price,V.str t'.name])) (.ref p):=λH' p t' s' hp=>⟨s'.trans (aa hp _),p,t',rfl,ae⟩;¶⟨rfl,bu (λ_=>⟨by show (3:Nat)≤sizeLine;decide,λp3 hp3=>?_⟩) λ_=>⟨rfl,bu (λ_=>?_) λ_=>⟨rfl,bu (λ_=>⟨⟨by decide,by decide,by decide⟩,by show (4:Nat)≤sizeLine;decide,λp3 hp3=>?_⟩) λ_=>bu (λ_=>?_) λ_=>⟨rfl,bu (λ_=>?_) λ_=>⟨rfl,bu (λ_=>?_) λ_=>⟨rfl,bu (λ_=>?_) λ_=>?_⟩⟩⟩⟩⟩⟩
  ·£⟨j,hj⟩:=Bo [1,-1,100] (more % 3) ¥ (by show more % 3 < 3;¡);§ao ae hj ⟨by show (4:Nat)≤sizeLine;decide,λp4 hp4=>fin _ p4 ⟨t.place+j,t.kind,t.price,t.name⟩ (aa hp3 _) hp4⟩
  ·£⟨z,hz⟩:=kn (more / 7);¤nl':=N2.2.1;£⟨z2,hz2⟩:=vq zs 53 ¥ ¥;¶au b1 rfl (au b1 rfl ⟨_,.inr (SqT.of b2),by rw[List.length_map];¡,au b2 hz (ao N2.1 hz2 ⟨by show (2:Nat)≤sizeLine;decide,λp3 hp3=>?_⟩)⟩);£⟨z3,hz3⟩:=vq [z,z2] (more % 5 / 4) ¥ (by show more % 5 / 4 < 2;¡);§ao ae hz3 ⟨by show (4:Nat)≤sizeLine;decide,λp4 hp4=>fin _ p4 ⟨t.place,z3,t.price,t.name⟩ (aa hp3 _) hp4⟩
  ·£⟨j,hj⟩:=Bo [1,-1,10 ^ Int.toNat 30,0 - t.price] (more / 5 % 4) ¥ (by show more / 5 % 4 < 4;¡);§ao ae hj ⟨by show (4:Nat)≤sizeLine;decide,λp4 hp4=>fin _ p4 ⟨t.place,t.kind,t.price+j,t.name⟩ (aa hp3 _) hp4⟩
  ·¤rp:(0:Int) < ((ra.map V.ref).length:Nat):=by rw[List.length_map];¡
   £⟨a2,r,ha2,sa,da,ds,r1,r2,r3⟩:=rn (more / 3 % ((ra.map V.ref).length:Nat)) (Int.emod_nonneg _ ¥) (Int.emod_lt_of_pos _ rp);¶au b1 rfl (au b1 rfl ⟨_,.inr (SqT.of b3),rp,au b3 ha2 (au r1 rfl ⟨by show (2:Nat)≤sizeLine;decide,λp3 hp3=>?_⟩)⟩);£⟨z3,hz3⟩:=vq [r.name,t.kind] (more % 7 / 6) ¥ (by show more % 7 / 6 < 2;¡);§ao ae hz3 ⟨by show (4:Nat)≤sizeLine;decide,λp4 hp4=>fin _ p4 ⟨t.place,t.kind,t.price,z3⟩ (aa hp3 _) hp4⟩
  ·¶⟨xs,SqL.of t2,λp3 hp3=>⟨xs,SqL.of (aa hp3 _ _ _ t2),λp4 hp4=>?_⟩⟩;¤s4:=aa hp4 (.lst (cn xs (some (at'+1)) none));¤s3:=aa hp3 (.lst (cn xs none (some at')));¶⟨p3,p4,_,_,rfl,rfl,s4 _ _ ae,ae,by have:=dm xs (some (at'+1)) none;have:=dm xs none (some at');have:=X2.1;¡,λp5 hp5=>?_⟩;¤S:=s3.trans (s4.trans (aa hp5 (.lst (cn xs none (some at')++cn xs (some (at'+1)) none))));§q2 p5 _ S ((s3.trans s4).free hp5) ⟨_,ae,(((X2.cut none (some at')).append (X2.cut (some (at'+1)) none)).same S).mono ¥⟩
  ·¶⟨xs,SqL.of t2,λp3 hp3=>?_⟩;¤s3:=aa hp3 (.lst (cn xs none (some at')));§ao (s3 _ _ t2) ha ⟨by show (1:Nat)≤sizeLine;decide,λp4 hp4=>three H2 a p3 p4 at' (ak.refl _) ⟨a,t,rfl,h4⟩ hp3 hp4⟩
  ·¶⟨xs,.inl (SqL.of t2),ip,xs,.inl (SqL.of t2),λl hl=>?_⟩;¤s3:=aa hl (.lst xs);£⟨a2,t',ha2,h42⟩:=row ((at'+1) % (xs.length:Nat)) (Int.emod_nonneg _ ¥) (Int.emod_lt_of_pos _ ip);¶ao (s3 _ _ t2) ha2 (ao (s3 _ _ t2) ha ⟨by show (2:Nat)≤sizeLine;decide,λp4 hp4=>?_⟩);£⟨j1,i1⟩:=M1 ha;£⟨j2,i2⟩:=M1 ha2;¤s4:=aa hp4 (.tup [V.ref a2,V.ref a]);¤l4:=s4 _ _ (ae:upd H2 l (.lst xs) l=some (.lst xs));¤S4:=s3.trans s4;¤e4:upd (upd H2 l (.lst xs)) p4 (.tup [V.ref a2,V.ref a]) p4=some (.tup [V.ref a2,V.ref a]):=ae;generalize upd (upd H2 l (.lst xs)) p4 (.tup [V.ref a2,V.ref a])=H4 at s4 l4 S4 e4 ⊢;¶⟨p4,_,rfl,SqT.of e4,rfl,_,_,rfl,?_⟩;push_cast [gSub];¶⟨l,xs,at',j1,rfl,rfl,l4,i1,_,_,rfl,?_⟩;push_cast [gSub];¶⟨l,xs.set j1 (.ref a2),_,j2,rfl,rfl,ae,by rw[List.length_set];§i2,rfl,?_⟩;push_cast [and_true];¤S:ak H2 (upd (upd H4 l (.lst (xs.set j1 (.ref a2)))) l (.lst ((xs.set j1 (.ref a2)).set j2 (.ref a)))):=(S4.upd hl _).upd hl _;§q2 l _ S hl ⟨_,ae,((((X2.set j1 ⟨a2,t',rfl,h42⟩).set j2 ⟨a,t,rfl,h4⟩)).same S).mono ¥⟩
  ·push_cast [and_true];¤kp':(0:Int) < ((kinds.map V.str).length:Nat):=by rw[List.length_map];¡
   £⟨z,hz⟩:=kn more;¶au b1 rfl (au b1 rfl ⟨_,.inr (SqT.of b2),kp',au b2 hz ⟨by show (4:Nat)≤sizeLine;decide,λp3 hp3=>⟨by show (1:Nat)≤sizeLine;decide,λp4 hp4=>?_⟩⟩⟩);¤s3:=aa hp3 (.tup [V.int (more / 7 % 26),V.str z,V.int (1+more % 20),V.str t.name]);¤s4:=aa hp4 (.lst [V.ref p3]);¤xm:=X2.1;¤R4:qo (upd (upd H2 p3 (.tup [V.int (more / 7 % 26),V.str z,V.int (1+more % 20),V.str t.name])) p4 (.lst [V.ref p3])) (.ref p3):=⟨p3,⟨more / 7 % 26,z,1+more % 20,t.name⟩,rfl,s4 _ _ ae⟩;¤S4:=s3.trans s4;¤l4:upd (upd H2 p3 (.tup [V.int (more / 7 % 26),V.str z,V.int (1+more % 20),V.str t.name])) p4 (.lst [V.ref p3]) p4=some (.lst [V.ref p3]):=ae;generalize upd (upd H2 p3 (.tup [V.int (more / 7 % 26),V.str z,V.int (1+more % 20),V.str t.name])) p4 (.lst [V.ref p3])=H4 at R4 S4 l4 ⊢;¶⟨tl,p4,xs,_,rfl,rfl,S4 _ _ t2,l4,by rw[List.length_singleton];¡,λp5 hp5=>⟨p5,rfl,?_⟩⟩;¤s5:=aa hp5 (.lst (xs++[V.ref p3]));¤S5:=S4.trans s5;¶Jo (m:=m+1) ae ((X2.same S5).snoc (R4.tk (TK.of s5))) ¥ λl is hV hl=>?_;§q2 l _ (S5.trans (aa hl _)) (S5.free hl) ⟨_,ae,(hV.same (aa hl _)).mono ¥⟩
 ·rintro σ H5 ⟨pr,v13,v14,rfl,s5,R5⟩;push_cast [and_true];¤t5:=s5 _ _ t2;¤X5:=X2.same s5;¶⟨xs,SqL.of t5,λp3 hp3=>⟨by show (1:Nat)≤sizeLine;decide,λp4 hp4=>?_⟩⟩;§three H5 pr p3 p4 (at'+1) s5 R5 hp3 hp4
noncomputable abbrev y8:Stmt:=top 35
theorem scLaw:az ["script","deck","cell","names","book","words","fits","least","reaching","tables","k","table","handed","found"] ["script"] (ah y8):=⟨rfl,rfl,rfl,by decide+kernel,rfl,by decide+kernel,by decide+kernel⟩
theorem hasLaw {f:Addr} {fd:FuncData} (G:Gs w K mg) (h_law_any_table:Has P w K mg base k "_law_any_table" ["deck","least","reaching"] oj) (h_law_book:Has P w K mg base k "_law_book" ["deck","names"] y4) (h_law_changed:Has P w K mg base k "_law_changed" ["deck","table","book","names"] lz) (h_law_due:Has P w K mg base k "_law_due" ["table","least","reaching"] zp) (h_law_fits:Has P w K mg base k "_law_fits" ["book","words"] ud) (h_law_least:Has P w K mg base k "_law_least" ["fits"] ox) (h_law_lesser:Has P w K mg base k "_law_lesser" ["table"] oh) (h_law_names:Has P w K mg base k "_law_names" ["deck"] oo) (h_law_next:Has P w K mg base k "_law_next" ["deck"] gn) (h_law_reaching:Has P w K mg base k "_law_reaching" ["fits","least"] pq) (h_law_term:Has P w K mg base k "_law_term" ["deck","names","most"] sk) (h_is_table:Has P w K mg base k "is_table" ["book","words","table"] sj) (F:Fun K "law" "law" y8 f fd):qc P w K mg base CX0 (k+1) f fd ["script"] (Fp K):=by
 ¶F.ok scLaw (λvs H Q E h=>?_) (λcdv A outer s H vs Q E hr h=>?_)
 ·£⟨_,_,rfl,_,_,_⟩:=h;rfl
 ¤nd:=scLaw.nd;¤hu:=b9 hr;¤hu0:=Nat.lt_of_succ_lt hu;¤hu8:=Dh hr;£⟨a,ns,rfl,hA,hn,q⟩:=h;¤m_bool:=G.m_bool;¤m_isinstance:=G.m_isinstance;¤m_list:=G.m_list;¤m_range:=G.m_range;¶⟨_,(A5 (C0 1 nd (AC (A1 (B6 (BN 0) (A0 0) (B7 0) (B9 (A2 0))) (A1 (A2 0) (A3 0))))) (A5 (A7 2 nd (AG h_law_next hr (A1 (AO 1) (A3 0)))) (A5 (A7 3 nd (AG h_law_names hr (A1 (AO 1) (A3 0)))) (A5 (A7 4 nd (AG h_law_book hr (A1 (AO 1) (A1 (A0 3) (A3 0))))) (A5 (A7 5 nd (AG h_law_term hr (A1 (AO 1) (A1 (A0 3) (A1 (A8 (AM 0) (AC (BF (BV (BV (BV (BG 0)))))) (A4 (A9 0) (A0 2) (A2 0))) (A3 0)))))) (A5 (A7 6 nd (AG h_law_fits hr (A1 (A0 4) (A1 (A0 5) (A3 0))))) (A5 (C0 7 nd (AG h_law_least hr (A1 (A0 6) (A3 0)))) (A5 (C0 8 nd (AG h_law_reaching hr (A1 (A0 6) (A1 (AO 7) (A3 0))))) (A5 (@Ar _ _ _ _ _ _ _ _ _ _ _ _ _ _ _ 9 _ _ _ nd rfl (Or.inl rfl) (BL ["k"] ["deck","least","reaching"] [1,7,8] (And.intro rfl (And.intro rfl (And.intro rfl trivial))) (And.intro (And.intro rfl (And.intro rfl rfl)) (And.intro (And.intro rfl (And.intro rfl rfl)) (And.intro (And.intro rfl (And.intro rfl rfl)) trivial)))) rfl (BP m_range (A1 (A2 0) (A3 0))) (λ_ _ _=>(BE 0 (show List.Nodup (["k","deck","least","reaching"]:List Str) by decide+kernel))) (λ_ _ _=>(@pif0 _)) (λ_ _ _=>(AG h_law_any_table hr (A1 (AO 1) (A1 (AO 2) (A1 (AO 3) (A3 0)))))) rfl (by ¿_;rfl) (.inl rfl)) (A5 (AS (AU PySem.F.plainAttrs_list PySem.F.slot_list_append PySem.F.type_list_append (AV 0) (A0 9) (A1 (AC (A3 0)) (A3 0)))) (A5 (AS (AU PySem.F.plainAttrs_list PySem.F.slot_list_append PySem.F.type_list_append (AV 0) (A0 9) (A1 (AG h_law_lesser hr (A1 (A8 (AM 0) (A0 9) (A2 0)) (A3 0))) (A3 0)))) (A5 (AY (BP m_range (A1 (A2 0) (A3 0))) (AJ 10 nd (by first | §Or.inl rfl | §Or.inr rfl)) (A6 (AS (AU PySem.F.plainAttrs_list PySem.F.slot_list_append PySem.F.type_list_append (AV 0) (A0 9) (A1 (AG h_law_changed hr (A1 (AO 1) (A1 (A8 (AM 0) (A0 9) (A4 (A9 0) (A0 10) (A2 0))) (A1 (A0 4) (A1 (A0 3) (A3 0)))))) (A3 0)))))) (A5 (AY (BD (A0 9)) (AJ 11 nd (by first | §Or.inl rfl | §Or.inr rfl)) (A5 (A7 12 nd (AZ (@ow _) m_list Dt (A1 (A0 11) (A3 0)))) (A5 (A7 13 nd (AG h_is_table hr (A1 (A0 4) (A1 (A0 5) (A1 (A0 12) (A3 0)))))) (A6 (AE (BA (BY (@Dz _ _ _ _ (BX (AN (C1 0) m_isinstance dr (A1 (A0 13) (A1 (C2 m_bool b_bool) (A3 0)))))) (BY (AB (@Cs _) (A0 13) (AG h_law_due hr (A1 (A0 11) (A1 (AO 7) (A1 (AO 8) (A3 0))))) (AA 0)) (C3 (AB (E1 hu8) (A0 12) (A0 11) (AA 0)))))) (A6 (AD (BB 0))) (AT 0)))))) (A6 (AD (BB 0)))))))))))))))),?_⟩;rw[show start ["script","deck","cell","names","book","words","fits","least","reaching","tables","k","table","handed","found"] [.ref a]=[some (.ref a),none,none,none,none,none,none,none,none,none,none,none,none,none] from rfl];clear hu hu0 nd hr;push_cast [gn,pj];¤sz:=sizeLine_eq;£⟨ms,em,hms⟩:=Ln ns none (some 200);¶⟨ns.map V.int,hA,λp hp=>?_⟩;rw[em];¶⟨by show (2:Nat)≤sizeLine;decide,λd hd=>⟨p,ms,0,⟨ae,aa hd _ _ _ ae⟩,by decide,λc H1 s1 d1=>?_⟩⟩;¤D1:cu H1 d p ms 1:=cu.next ⟨ae,aa hd _ _ _ ae⟩ s1 d1
 ¶Mn D1 ¥ λnl H2 zs s2 d2 N2=>?_;¤D2:cu H2 d p ms 2:=D1.next s2 d2
 ¶mkBook D2 N2 ¥ λbt n3 H3 kinds rs s3 d3 hn3 B3 bk hrs=>?_;¤D3:=D2.next s3 d3
 ¤N3:=N2.b8 D2 s3;¶⟨by show (3:Nat)≤sizeLine;decide,λp4 hp4=>?_⟩;£⟨m,hm1,hm2,hat⟩:∃m:Nat,1≤m∧m≤120∧atI [V.int 3,V.int 12,V.int 25] (c % 3)=some (.int (m:Int)):=by
  rcases (show c % 3=((0:Nat):Int)∨c % 3=((1:Nat):Int)∨c % 3=((2:Nat):Int) by ¡) with e | e | e
  ·rw[e];§⟨3,by decide,by decide,bo rfl⟩
  ·rw[e];§⟨12,by decide,by decide,bo rfl⟩
  ·rw[e];§⟨25,by decide,by decide,bo rfl⟩
 ¤q4:=aa hp4 (.lst [V.int 3,V.int 12,V.int 25]);¶ao ae hat (Qk (D3.same q4) (N3.same q4) hm1 hm2 ¥ λt n5 H5 ws s5 d5 hn5 ht h5 tw hwl=>?_);¤B5:=(B3.same q4).keep (dv (D3.same q4) s5);¤D5:=(D3.same q4).next s5 d5
 ¤N5:=(N3.same q4).b8 (D3.same q4) s5;clear hd hp4 q4 s1 s2 s3 s5 D1 D2 D3 N2 N3 d1 d2 d3;¤twl:=tw.len;¶Oq B5 h5 bk tw λfl as H6 s6 hfl f6 F6=>?_;¤fl6:(i5 kinds rs ws).length≤12000:=Nat.le_trans (wy kinds rs ws bk.len ws.length) ¥;¤F6':=F6.weak (no':=λ_=>False) λ_ z=>z.elim;¶Kz f6 F6' ¥ (lf_own bk) λld H7 g ks s7 hld T7 T hkl=>?_;¤TT:Tbl (m8 kinds rs ws) g:=T.of_mem (lf_mem kinds rs ws);¶K3 (s7 _ _ f6) (F6'.same s7) ¥ T7 ¥ T λrd lx H8 s8 hrd R8=>?_;¤S8:=s6.trans (s7.trans s8);¤L8:Lst H8 kinds rs ws g ks lx ld rd:=⟨bk,tw,TT,T7.same s8,R8,¥⟩;¤D8:=D5.same S8;¤B8:=B5.same S8;¤w8:=S8 _ _ h5;¤N8:=N5.same S8;clear B5 D5 h5 N5 S8 s6 s7 s8 R8 T7 F6 F6' f6;¿T hT;¤nTd:T≠d:=(ag D8.1 hT).symm;¶Ob (λi ys H'=>∃(as:List Addr) (n':Nat),ys=as.map V.ref∧as.length=i∧j7 H' T as∧aq d H8 H'∧H' d=some (.lst [.ref p,.int (n':Int)])∧n'≤n5+i*12000) (by show (2:Nat) < sizeLine;decide) ⟨[],n5,rfl,rfl,⟨ae,λj a e=>by simp at e⟩,aq.of (aa hT _),by rw[af nTd.symm];§D8.1,¥⟩ (λi ys HA G' K' hi hP hl2 hD2 hG hK'=>?_) λys HA hP hl2 hD2=>?_
 ·£⟨as,n',rfl,asl,TA,sA,dA,hn'⟩:=hP;¤hi:i < 2:=hi;push_cast [and_true];¤DA:=D8.next sA dA
  ¶Kh DA ¥ (L8.b8 D8 sA) λl n2 HB sB dB hn2 hl tB=>?_;¤TB:=TA.b8 DA nTd sB;¤nl:l≠T:=(ag hD2 hl).symm;¶hK' _ HB TB.1 ⟨as++[l],n2,by rw[List.map_append];rfl,by rw[List.length_append,asl];rfl,TB.snoc (tB.mono (by rw[asl,if_pos hi];¡)) nl,?_,by rw[af nTd.symm];§dB,¥⟩;§(sA.trans sB).upd hT _
 ·£⟨as,n',rfl,asl,TA,sA,dA,hn'⟩:=hP;¤asl:as.length=2:=asl;¤hn':n'≤n5+24000:=hn';¶⟨av TA.1,Nat.zero_le _,λe he=>?_⟩;¤s1:=aa he (.lst []);¤e1:TabAt (upd HA e (.lst [])) e 0:=⟨[],ae,cz.nil _ _⟩;¤ne:e≠T:=(ag TA.1 he).symm;¤T1:=TA.same s1;¤D1:=(D8.next sA dA).same s1;¤SB1:=sA.trans (aq.of s1);generalize upd HA e (.lst [])=H1 at s1 e1 T1 D1 SB1 ⊢;¶(bb (K:=K) T1.1 (by rw[List.length_map];¡) ?_).2;¤T2:=T1.snoc (a:=e) (e1.mono (Nat.zero_le _)) ne;¤SB2:=SB1.upd hT (.lst (as.map V.ref++[.ref e]));¤D2:cu (upd H1 T (.lst (as.map V.ref++[.ref e]))) d p ms n':=D8.next SB2 (by rw[af nTd.symm];§D1.1)
  generalize upd H1 T (.lst (as.map V.ref++[.ref e]))=H2 at T2 SB2 D2 ⊢;£⟨a0,h0⟩:∃a0,as[0]?=some a0:=⟨_,List.getElem?_eq_getElem ¥⟩;¤h0':(as++[e])[0]?=some a0:=by rw[List.getElem?_append_left ¥];§h0
  ¶⟨av T2.1,ao T2.1 (bo (j:=0) (v:=.ref a0) (by rw[List.getElem?_map,h0'];rfl)) (Md (T2.2 0 a0 h0').2 (by decide) λl H3 s3 hl t3=>?_)⟩;¤nlT:l≠T:=(ag T2.1 hl).symm;¤T3:=T2.same s3;¶(bb (K:=K) T3.1 (by rw[List.length_map,List.length_append];simp;¡) ?_).2;¤T4:=T3.snoc (a:=l) (t3.mono (by rw[List.length_append,asl];show (12000:Nat)≤30000;decide)) nlT;¤SB4:=(SB2.trans (aq.of s3)).upd hT (.lst ((as++[e]).map V.ref++[.ref l]));¤D4:cu (upd H3 T (.lst ((as++[e]).map V.ref++[.ref l]))) d p ms n':=D8.next SB4 (by rw[af nTd.symm];§s3 _ _ D2.1)
  generalize upd H3 T (.lst ((as++[e]).map V.ref++[.ref l]))=H4 at T4 SB4 D4 ⊢;¤al4:(as++[e]++[l]).length=4:=by rw[List.length_append,List.length_append,asl];rfl
  generalize as++[e]++[l]=bs at T4 al4;clear T1 T2 T3 e1 s1 D1 D2 SB1 SB2 s3 t3 h0 h0';£⟨P1,eP1⟩:∃P1:Nat→L2.St→Hp→Prop,∀i σ H',P1 i σ H'↔∃(as:List Addr) (v10:Option V),σ=[some (.ref a),some (.ref d),some (.int c),some (.ref nl),some (.ref bt),some (.ref t),some (.ref fl),some (.ref ld),some (.ref rd),some (.ref T),v10,none,none,none]∧as.length=i+4∧j7 H' T as∧aq d H8 H'∧H' d=some (.lst [.ref p,.int ((n'+i:Nat):Int)]):=⟨_,λ_ _ _=>Iff.rfl⟩;¶fh (n:=6) P1 ((eP1 _ _ _).mpr ⟨bs,none,rfl,al4,T4,SB4,D4.1⟩) ?_ ?_
  ·¿i σ H5 hi hh;¶ob2 ((eP1 _ _ _).mp hh) λcs v10 hh=>?_;¤cl:=hh.2.1;¤T5:=hh.2.2.1;¤SB5:=hh.2.2.2.1;¤d5:=hh.2.2.2.2;£rfl:=hh.1;clear hh;¤D5:=D8.next SB5 d5
   push_cast [and_true];¤hj:i % 2 < cs.length:=by ¡
   £⟨b0,g0⟩:∃b0,cs[i % 2]?=some b0:=⟨_,List.getElem?_eq_getElem hj⟩;¤t0:=(T5.2 _ _ g0).2;rw[if_pos (show i % 2 < 2 by ¡)] at t0;¶⟨av T5.1,ao (v:=.ref b0) T5.1 ?_ (Jh D5 ¥ t0 (by decide) (B8.keep (dv D8 SB5)) bk hrs (N8.b8 D8 SB5) λl H6 s6 d6 hl t6=>?_)⟩
   ·rw[show ((0:Int)+(i:Int)) % 2=((i % 2:Nat):Int) by ¡];§bo (by rw[List.getElem?_map,g0];rfl)
   ¤T6:=T5.b8 D5 nTd s6;¶(bb (K:=K) T6.1 (by rw[List.length_map];¡) ((eP1 _ _ _).mpr ⟨cs++[l],_,rfl,by rw[List.length_append,List.length_singleton];¡,T6.snoc (t6.mono ?_) (ag T5.1 hl).symm,(SB5.trans s6).upd hT _,by rw[af nTd.symm];§d6⟩)).2;rw[if_neg ¥];decide
  ·intro σ H5 hh;¶ob2 ((eP1 _ _ _).mp hh) λcs v10 hh=>?_;¤cl:=hh.2.1;¤T5:=hh.2.2.1;¤SB5:=hh.2.2.2.1;¤d5:=hh.2.2.2.2;£rfl:=hh.1;clear hh;¤L5:=L8.b8 D8 SB5;¤B5:=B8.keep (dv D8 SB5);¤w5:=dv D8 SB5 w8;push_cast [and_true];£⟨P2,eP2⟩:∃P2:Nat→L2.St→Hp→Prop,∀i σ H',P2 i σ H'↔∃v11 v12 v13:Option V,σ=[some (.ref a),some (.ref d),some (.int c),some (.ref nl),some (.ref bt),some (.ref t),some (.ref fl),some (.ref ld),some (.ref rd),some (.ref T),v10,v11,v12,v13]∧ak H5 H':=⟨_,λ_ _ _=>Iff.rfl⟩;¶⟨⟨_,SqL.of T5.1⟩,dg (xs:=cs.map V.ref) P2 ((eP2 _ _ _).mpr ⟨none,none,none,rfl,ak.refl _⟩) (λi σ H' _ h=>by £⟨_,_,_,_,s⟩:=(eP2 _ _ _).mp h;§SqL.of (s _ _ T5.1)) ?_ ?_⟩
   ·¿i y σ H6 hy hh;¶ob3 ((eP2 _ _ _).mp hh) λv11 v12 v13 hh=>?_;¤s6:=hh.2;£rfl:=hh.1;clear hh;rw[List.getElem?_map] at hy;£⟨b0,g0,rfl⟩:=Option.map_eq_some_iff.mp hy;£⟨xs,x1,x2⟩:=(T5.2 _ _ g0).2.mono (m':=30000) (by split <;> ¡);£⟨ts,tab,rfl,tr,tabl⟩:=x2.tr;¤x6:=s6 _ _ x1;push_cast [and_true];¶⟨ts.map V.ref,.inl (SqL.of x6),λhd hhd=>?_⟩;¤s7:=aa hhd (.lst (ts.map V.ref));¤S7:=s6.trans s7;¤h7:upd H6 hd (.lst (ts.map V.ref)) hd=some (.lst (ts.map V.ref)):=ae;generalize upd H6 hd (.lst (ts.map V.ref))=H7 at s7 S7 h7 ⊢;¶Pr (B5.same S7) (S7 _ _ w5) bk tw h7 (tr.same S7) ¥ λHC g2 c2 s8 T2 hc2=>?_;£rfl:g=g2:=TT.eq T2 (Ks bk);¤S8:=S7.trans s8;¶⟨_,.bl c2,true,rfl,ifN (by simp) (mkDueT (S8 _ _ x1) (tr.same S8) ¥ (L5.same S8) λc3 HD s9 hc3=>⟨rfl,?_⟩)⟩;¤ec:c2=c3:=Bool.eq_iff_iff.mpr (hc2.trans hc3.symm);subst ec;¤S9:=S8.trans s9;§ifN (by simp) ⟨hd,b0,ts,ts,tab.map tr4K,tab.map tr4K,rfl,rfl,(s8.trans s9) _ _ h7,S9 _ _ x1,(tr.same S9).rq,(tr.same S9).rq,ifN (by simp) ((eP2 _ _ _).mpr ⟨_,_,_,rfl,S9⟩)⟩
   ·intro σ H6 hh;£⟨v11,v12,v13,rfl,s6⟩:=(eP2 _ _ _).mp hh;push_cast [and_true];§q H6
end
end K43
namespace K43
open PySem PySem.Spec L2 PyProof.Rows Pc
theorem all_mk {l:PySem.W.OpenLaw} {w:World} {K:PySem.W.Frag} {h:Heap} {mg:Str→Option Value} {fa:Addr} (X:K.In h) (G:h.Ns mainGlobals mg) (hfa:mg "law"=some (.ref fa))
  {f0 f1 f2 f3 f4 f5 f6 f7 f8 f9 f10 f11 f12 f13 f14 f15 f16 f17 f18 f19 f20 f21 f22 f23 f24 f25 f26 f27 f28 f29 f30 g0:Addr} {od0 an0 od1 an1 od2 an2 od3 an3 od4 an4 od5 an5 od6 an6 od7 an7 od8 an8 od9 an9 od10 an10 od11 an11 od12 an12 od13 an13 od14 an14 od15 an15 od16 an16 od17 an17 od18 an18 od19 an19 od20 an20 od21 an21 od22 an22 od23 an23 od24 an24 od25 an25 od26 an26 od27 an27 od28 an28 od29 an29 od30 an30:Option Addr} {sl0 sl1 sl2 sl3 sl4 sl5 sl6 sl7 sl8 sl9 sl10 sl11 sl12 sl13 sl14 sl15 sl16 sl17 sl18 sl19 sl20 sl21 sl22 sl23 sl24 sl25 sl26 sl27 sl28 sl29 sl30:Array (Option Value)} {oc0 kV0 dc0 pm0 cd0 ct0 oc1 kV1 dc1 pm1 cd1 ct1 oc2 kV2 dc2 pm2 cd2 ct2 oc3 kV3 dc3 pm3 cd3 ct3 oc4 kV4 dc4 pm4 cd4 ct4 oc5 kV5 dc5 pm5 cd5 ct5 oc6 kV6 dc6 pm6 cd6 ct6 oc7 kV7 dc7 pm7 cd7 ct7 oc8 kV8 dc8 pm8 cd8 ct8 oc9 kV9 dc9 pm9 cd9 ct9 oc10 kV10 dc10 pm10 cd10 ct10 oc11 kV11 dc11 pm11 cd11 ct11 oc12 kV12 dc12 pm12 cd12 ct12 oc13 kV13 dc13 pm13 cd13 ct13 oc14 kV14 dc14 pm14 cd14 ct14 oc15 kV15 dc15 pm15 cd15 ct15 oc16 kV16 dc16 pm16 cd16 ct16 oc17 kV17 dc17 pm17 cd17 ct17 oc18 kV18 dc18 pm18 cd18 ct18 oc19 kV19 dc19 pm19 cd19 ct19 oc20 kV20 dc20 pm20 cd20 ct20 oc21 kV21 dc21 pm21 cd21 ct21 oc22 kV22 dc22 pm22 cd22 ct22 oc23 kV23 dc23 pm23 cd23 ct23 oc24 kV24 dc24 pm24 cd24 ct24 oc25 kV25 dc25 pm25 cd25 ct25 oc26 kV26 dc26 pm26 cd26 ct26 oc27 kV27 dc27 pm27 cd27 ct27 oc28 kV28 dc28 pm28 cd28 ct28 oc29 kV29 dc29 pm29 cd29 ct29 oc30 kV30 dc30 pm30 cd30 ct30:Value} {dt0x0 dt0x1 dt0x2 dt0x3 du0x0 du0x1 du0x2 du0x3 dp0:Nat} {dh0x0 dh0x1 dh0x2 dh0x3:Int}
  (a0:PySem.W.nsIn K mainGlobals "how_many_below"=some (some (.ref f0)))
  (l0:K.lookup f0=some ⟨oc0,od0,.func (PySem.W.fnOf "how_many_below" "how_many_below" (ay Ee) (aw Ee) (ah Ee) .none kV0 dc0 pm0 an0 cd0 ct0),sl0⟩)
  (c0:PySem.W.codeIn K cd0 "how_many_below"=true)
  (k0:PySem.W.keepIn K (.ref f0)=true)
  (a1:PySem.W.nsIn K mainGlobals "place_behind"=some (some (.ref f1)))
  (l1:K.lookup f1=some ⟨oc1,od1,.func (PySem.W.fnOf "place_behind" "place_behind" (ay jg) (aw jg) (ah jg) .none kV1 dc1 pm1 an1 cd1 ct1),sl1⟩)
  (c1:PySem.W.codeIn K cd1 "place_behind"=true)
  (k1:PySem.W.keepIn K (.ref f1)=true)
  (a2:PySem.W.nsIn K mainGlobals "leaf_letter"=some (some (.ref f2)))
  (l2:K.lookup f2=some ⟨oc2,od2,.func (PySem.W.fnOf "leaf_letter" "leaf_letter" (ay we) (aw we) (ah we) .none kV2 dc2 pm2 an2 cd2 ct2),sl2⟩)
  (c2:PySem.W.codeIn K cd2 "leaf_letter"=true)
  (k2:PySem.W.keepIn K (.ref f2)=true)
  (a3:PySem.W.nsIn K mainGlobals "lies_upon"=some (some (.ref f3)))
  (l3:K.lookup f3=some ⟨oc3,od3,.func (PySem.W.fnOf "lies_upon" "lies_upon" (ay vy) (aw vy) (ah vy) .none kV3 dc3 pm3 an3 cd3 ct3),sl3⟩)
  (c3:PySem.W.codeIn K cd3 "lies_upon"=true)
  (k3:PySem.W.keepIn K (.ref f3)=true)
  (a4:PySem.W.nsIn K mainGlobals "laid"=some (some (.ref f4)))
  (l4:K.lookup f4=some ⟨oc4,od4,.func (PySem.W.fnOf "laid" "laid" (ay vc) (aw vc) (ah vc) .none kV4 dc4 pm4 an4 cd4 ct4),sl4⟩)
  (c4:PySem.W.codeIn K cd4 "laid"=true)
  (k4:PySem.W.keepIn K (.ref f4)=true)
  (a5:PySem.W.nsIn K mainGlobals "holes_under"=some (some (.ref f5)))
  (l5:K.lookup f5=some ⟨oc5,od5,.func (PySem.W.fnOf "holes_under" "holes_under" (ay jn) (aw jn) (ah jn) .none kV5 dc5 pm5 an5 cd5 ct5),sl5⟩)
  (c5:PySem.W.codeIn K cd5 "holes_under"=true)
  (k5:PySem.W.keepIn K (.ref f5)=true)
  (a6:PySem.W.nsIn K mainGlobals "fitting_rules"=some (some (.ref f6)))
  (l6:K.lookup f6=some ⟨oc6,od6,.func (PySem.W.fnOf "fitting_rules" "fitting_rules" (ay gv) (aw gv) (ah gv) .none kV6 dc6 pm6 an6 cd6 ct6),sl6⟩)
  (c6:PySem.W.codeIn K cd6 "fitting_rules"=true)
  (k6:PySem.W.keepIn K (.ref f6)=true)
  (a7:PySem.W.nsIn K mainGlobals "price_there"=some (some (.ref f7)))
  (l7:K.lookup f7=some ⟨oc7,od7,.func (PySem.W.fnOf "price_there" "price_there" (ay ng) (aw ng) (ah ng) .none kV7 dc7 pm7 an7 cd7 ct7),sl7⟩)
  (c7:PySem.W.codeIn K cd7 "price_there"=true)
  (k7:PySem.W.keepIn K (.ref f7)=true)
  (a8:PySem.W.nsIn K mainGlobals "settle_part"=some (some (.ref f8)))
  (l8:K.lookup f8=some ⟨oc8,od8,.func (PySem.W.fnOf "settle_part" "settle_part" (ay ji) (aw ji) (ah ji) .none kV8 dc8 pm8 an8 cd8 ct8),sl8⟩)
  (c8:PySem.W.codeIn K cd8 "settle_part"=true)
  (k8:PySem.W.keepIn K (.ref f8)=true)
  (a9:PySem.W.nsIn K mainGlobals "rules_with_price"=some (some (.ref f9)))
  (l9:K.lookup f9=some ⟨oc9,od9,.func (PySem.W.fnOf "rules_with_price" "rules_with_price" (ay uu) (aw uu) (ah uu) .none kV9 dc9 pm9 an9 cd9 ct9),sl9⟩)
  (c9:PySem.W.codeIn K cd9 "rules_with_price"=true)
  (k9:PySem.W.keepIn K (.ref f9)=true)
  (a10:PySem.W.nsIn K mainGlobals "rows_of_part"=some (some (.ref f10)))
  (l10:K.lookup f10=some ⟨oc10,od10,.func (PySem.W.fnOf "rows_of_part" "rows_of_part" (ay mh) (aw mh) (ah mh) .none kV10 dc10 pm10 an10 cd10 ct10),sl10⟩)
  (c10:PySem.W.codeIn K cd10 "rows_of_part"=true)
  (k10:PySem.W.keepIn K (.ref f10)=true)
  (a11:PySem.W.nsIn K mainGlobals "rows_with_all_rules"=some (some (.ref f11)))
  (l11:K.lookup f11=some ⟨oc11,od11,.func (PySem.W.fnOf "rows_with_all_rules" "rows_with_all_rules" (ay mi) (aw mi) (ah mi) .none kV11 dc11 pm11 an11 cd11 ct11),sl11⟩)
  (c11:PySem.W.codeIn K cd11 "rows_with_all_rules"=true)
  (k11:PySem.W.keepIn K (.ref f11)=true)
  (a12:PySem.W.nsIn K mainGlobals "is_table"=some (some (.ref f12)))
  (l12:K.lookup f12=some ⟨oc12,od12,.func (PySem.W.fnOf "is_table" "is_table" (ay m9) (aw m9) (ah m9) .none kV12 dc12 pm12 an12 cd12 ct12),sl12⟩)
  (c12:PySem.W.codeIn K cd12 "is_table"=true)
  (k12:PySem.W.keepIn K (.ref f12)=true)
  (a13:PySem.W.nsIn K mainGlobals "_law_next"=some (some (.ref f13)))
  (l13:K.lookup f13=some ⟨oc13,od13,.func (PySem.W.fnOf "_law_next" "_law_next" (ay vv) (aw vv) (ah vv) .none kV13 dc13 pm13 an13 cd13 ct13),sl13⟩)
  (c13:PySem.W.codeIn K cd13 "_law_next"=true)
  (k13:PySem.W.keepIn K (.ref f13)=true)
  (a14:PySem.W.nsIn K mainGlobals "_law_ends"=some (some (.ref f14)))
  (l14:K.lookup f14=some ⟨oc14,od14,.func (PySem.W.fnOf "_law_ends" "_law_ends" (ay vg) (aw vg) (ah vg) .none kV14 dc14 pm14 an14 cd14 ct14),sl14⟩)
  (c14:PySem.W.codeIn K cd14 "_law_ends"=true)
  (k14:PySem.W.keepIn K (.ref f14)=true)
  (a15:PySem.W.nsIn K mainGlobals "_law_laid"=some (some (.ref f15)))
  (l15:K.lookup f15=some ⟨oc15,od15,.func (PySem.W.fnOf "_law_laid" "_law_laid" (ay mw) (aw mw) (ah mw) .none kV15 dc15 pm15 an15 cd15 ct15),sl15⟩)
  (c15:PySem.W.codeIn K cd15 "_law_laid"=true)
  (k15:PySem.W.keepIn K (.ref f15)=true)
  (a16:PySem.W.nsIn K mainGlobals "_law_term"=some (some (.ref f16)))
  (l16:K.lookup f16=some ⟨oc16,od16,.func (PySem.W.fnOf "_law_term" "_law_term" (ay wu) (aw wu) (ah wu) .none kV16 dc16 pm16 an16 cd16 ct16),sl16⟩)
  (c16:PySem.W.codeIn K cd16 "_law_term"=true)
  (k16:PySem.W.keepIn K (.ref f16)=true)
  (a17:PySem.W.nsIn K mainGlobals "_law_shape"=some (some (.ref f17)))
  (l17:K.lookup f17=some ⟨oc17,od17,.func (PySem.W.fnOf "_law_shape" "_law_shape" (ay nq) (aw nq) (ah nq) .none kV17 dc17 pm17 an17 cd17 ct17),sl17⟩)
  (c17:PySem.W.codeIn K cd17 "_law_shape"=true)
  (k17:PySem.W.keepIn K (.ref f17)=true)
  (a18:PySem.W.nsIn K mainGlobals "_law_deeds"=some (some (.ref f18)))
  (l18:K.lookup f18=some ⟨oc18,od18,.func (PySem.W.fnOf "_law_deeds" "_law_deeds" (ay mn) (aw mn) (ah mn) .none kV18 dc18 pm18 an18 cd18 ct18),sl18⟩)
  (c18:PySem.W.codeIn K cd18 "_law_deeds"=true)
  (k18:PySem.W.keepIn K (.ref f18)=true)
  (a19:PySem.W.nsIn K mainGlobals "_law_book"=some (some (.ref f19)))
  (l19:K.lookup f19=some ⟨oc19,od19,.func (PySem.W.fnOf "_law_book" "_law_book" (ay wg) (aw wg) (ah wg) .none kV19 dc19 pm19 an19 cd19 ct19),sl19⟩)
  (c19:PySem.W.codeIn K cd19 "_law_book"=true)
  (k19:PySem.W.keepIn K (.ref f19)=true)
  (a20:PySem.W.nsIn K mainGlobals "_law_names"=some (some (.ref f20)))
  (l20:K.lookup f20=some ⟨oc20,od20,.func (PySem.W.fnOf "_law_names" "_law_names" (ay m7) (aw m7) (ah m7) .none kV20 dc20 pm20 an20 cd20 ct20),sl20⟩)
  (c20:PySem.W.codeIn K cd20 "_law_names"=true)
  (k20:PySem.W.keepIn K (.ref f20)=true)
  (a21:PySem.W.nsIn K mainGlobals "_law_holes"=some (some (.ref f21)))
  (l21:K.lookup f21=some ⟨oc21,od21,.func (PySem.W.fnOf "_law_holes" "_law_holes" (ay jx) (aw jx) (ah jx) .none kV21 dc21 pm21 an21 cd21 ct21),sl21⟩)
  (c21:PySem.W.codeIn K cd21 "_law_holes"=true)
  (k21:PySem.W.keepIn K (.ref f21)=true)
  (a22:PySem.W.nsIn K mainGlobals "_law_fits"=some (some (.ref f22)))
  (l22:K.lookup f22=some ⟨oc22,od22,.func (PySem.W.fnOf "_law_fits" "_law_fits" (ay mx) (aw mx) (ah mx) .none kV22 dc22 pm22 an22 cd22 ct22),sl22⟩)
  (c22:PySem.W.codeIn K cd22 "_law_fits"=true)
  (k22:PySem.W.keepIn K (.ref f22)=true)
  (a23:PySem.W.nsIn K mainGlobals "_law_cost"=some (some (.ref f23)))
  (l23:K.lookup f23=some ⟨oc23,od23,.func (PySem.W.fnOf "_law_cost" "_law_cost" (ay nj) (aw nj) (ah nj) .none kV23 dc23 pm23 an23 cd23 ct23),sl23⟩)
  (c23:PySem.W.codeIn K cd23 "_law_cost"=true)
  (k23:PySem.W.keepIn K (.ref f23)=true)
  (a24:PySem.W.nsIn K mainGlobals "_law_least"=some (some (.ref f24)))
  (l24:K.lookup f24=some ⟨oc24,od24,.func (PySem.W.fnOf "_law_least" "_law_least" (ay ju) (aw ju) (ah ju) .none kV24 dc24 pm24 an24 cd24 ct24),sl24⟩)
  (c24:PySem.W.codeIn K cd24 "_law_least"=true)
  (k24:PySem.W.keepIn K (.ref f24)=true)
  (a25:PySem.W.nsIn K mainGlobals "_law_reaching"=some (some (.ref f25)))
  (l25:K.lookup f25=some ⟨oc25,od25,.func (PySem.W.fnOf "_law_reaching" "_law_reaching" (ay jf) (aw jf) (ah jf) .none kV25 dc25 pm25 an25 cd25 ct25),sl25⟩)
  (c25:PySem.W.codeIn K cd25 "_law_reaching"=true)
  (k25:PySem.W.keepIn K (.ref f25)=true)
  (a26:PySem.W.nsIn K mainGlobals "_law_any_table"=some (some (.ref f26)))
  (l26:K.lookup f26=some ⟨oc26,od26,.func (PySem.W.fnOf "_law_any_table" "_law_any_table" (ay jt) (aw jt) (ah jt) .none kV26 dc26 pm26 an26 cd26 ct26),sl26⟩)
  (c26:PySem.W.codeIn K cd26 "_law_any_table"=true)
  (k26:PySem.W.keepIn K (.ref f26)=true)
  (a27:PySem.W.nsIn K mainGlobals "_law_lesser"=some (some (.ref f27)))
  (l27:K.lookup f27=some ⟨oc27,od27,.func (PySem.W.fnOf "_law_lesser" "_law_lesser" (ay jw) (aw jw) (ah jw) .none kV27 dc27 pm27 an27 cd27 ct27),sl27⟩)
  (c27:PySem.W.codeIn K cd27 "_law_lesser"=true)
  (k27:PySem.W.keepIn K (.ref f27)=true)
  (a28:PySem.W.nsIn K mainGlobals "_law_due"=some (some (.ref f28)))
  (l28:K.lookup f28=some ⟨oc28,od28,.func (PySem.W.fnOf "_law_due" "_law_due" (ay uj) (aw uj) (ah uj) .none kV28 dc28 pm28 an28 cd28 ct28),sl28⟩)
  (c28:PySem.W.codeIn K cd28 "_law_due"=true)
  (k28:PySem.W.keepIn K (.ref f28)=true)
  (a29:PySem.W.nsIn K mainGlobals "_law_changed"=some (some (.ref f29)))
  (l29:K.lookup f29=some ⟨oc29,od29,.func (PySem.W.fnOf "_law_changed" "_law_changed" (ay ic) (aw ic) (ah ic) .none kV29 dc29 pm29 an29 cd29 ct29),sl29⟩)
  (c29:PySem.W.codeIn K cd29 "_law_changed"=true)
  (k29:PySem.W.keepIn K (.ref f29)=true)
  (a30:PySem.W.nsIn K mainGlobals "law"=some (some (.ref f30)))
  (l30:K.lookup f30=some ⟨oc30,od30,.func (PySem.W.fnOf "law" "law" (ay y8) (aw y8) (ah y8) .none kV30 dc30 pm30 an30 cd30 ct30),sl30⟩)
  (c30:PySem.W.codeIn K cd30 "law"=true)
  (k30:PySem.W.keepIn K (.ref f30)=true)
  (z0:PySem.W.nsIn K mainGlobals "bool"=some none)
  (z1:PySem.W.nsIn K mainGlobals "dict"=some none)
  (z2:PySem.W.nsIn K mainGlobals "int"=some none)
  (z3:PySem.W.nsIn K mainGlobals "isinstance"=some none)
  (z4:PySem.W.nsIn K mainGlobals "len"=some none)
  (z5:PySem.W.nsIn K mainGlobals "list"=some none)
  (z6:PySem.W.nsIn K mainGlobals "max"=some none)
  (z7:PySem.W.nsIn K mainGlobals "range"=some none)
  (z8:PySem.W.nsIn K mainGlobals "reversed"=some none)
  (z9:PySem.W.nsIn K mainGlobals "sorted"=some none)
  (z10:PySem.W.nsIn K mainGlobals "str"=some none)
  (z11:PySem.W.nsIn K mainGlobals "tuple"=some none)
  (z12:PySem.W.nsIn K mainGlobals "zip"=some none)
  (y0:PySem.W.nsIn K mainGlobals "PARTS_BELOW"=some (some (.ref g0)))
  (x0:K.lookup g0=some ⟨.type "dict",none,.dict #[⟨dh0x0,.str "add" dt0x0,.int 2 du0x0⟩,⟨dh0x1,.str "sub" dt0x1,.int 2 du0x1⟩,⟨dh0x2,.str "mul" dt0x2,.int 2 du0x2⟩,⟨dh0x3,.str "neg" dt0x3,.int 1 du0x3⟩] dp0,#[]⟩)
  (hh0x0:dh0x0=hashStr w "add")
  (hh0x1:dh0x1=hashStr w "sub")
  (hh0x2:dh0x2=hashStr w "mul")
  (hh0x3:dh0x3=hashStr w "neg")
  (ha0:(g0==sysModules)=false):
  ∃fd:FuncData,(∀(s:Shared) (v:Value),BindsTo s fd ⟨[v],[]⟩ [("script",v)])∧∀base:Heap,K.In base→base.Ns mainGlobals mg→qc l.prog w K mg base CX0 7 fa fd ["script"] (Fp K):=by
 ¤e:=hfa.symm.trans (PySem.W.mg_of X G a30);cases e
 ¤G0:Gs w K mg:=⟨PySem.W.mg_none_of X G z0,PySem.W.mg_none_of X G z1,PySem.W.mg_none_of X G z2,PySem.W.mg_none_of X G z3,PySem.W.mg_none_of X G z4,PySem.W.mg_none_of X G z5,PySem.W.mg_none_of X G z6,PySem.W.mg_none_of X G z7,PySem.W.mg_none_of X G z8,PySem.W.mg_none_of X G z9,PySem.W.mg_none_of X G z10,PySem.W.mg_none_of X G z11,PySem.W.mg_none_of X G z12,⟨g0,PySem.W.mg_of X G y0,Pt [(dh0x0,"add",dt0x0,2,du0x0),(dh0x1,"sub",dt0x1,2,du0x1),(dh0x2,"mul",dt0x2,2,du0x2),(dh0x3,"neg",dt0x3,1,du0x3)] x0 ha0 (by ¿e he;simp only[List.mem_cons,List.not_mem_nil,or_false] at he;rcases he with rfl | rfl | rfl | rfl <;> assumption) (by show List.Nodup ([Sum.inr "add",Sum.inr "sub",Sum.inr "mul",Sum.inr "neg"]:List Key);decide+kernel)⟩⟩;¤F0:=bq (st:=Ee) l0 c0 k0;¤D0:Def K mg "how_many_below" Ee ["word"]:=⟨f0,_,F0,F0.binds (ps:=["word"]) (λ_ _ _ _ _ _ us hl=>by ¶us1 (P:=λus=>bindArgs _ ⟨us,[]⟩=pure (List.zip _ us)) hl ?_;intros;rfl),PySem.W.mg_of X G a0⟩;¤F1:=bq (st:=jg) l1 c1 k1;¤D1:Def K mg "place_behind" jg ["words","place"]:=⟨f1,_,F1,F1.binds (ps:=["words","place"]) (λ_ _ _ _ _ _ us hl=>by ¶us2 (P:=λus=>bindArgs _ ⟨us,[]⟩=pure (List.zip _ us)) hl ?_;intros;rfl),PySem.W.mg_of X G a1⟩;¤F2:=bq (st:=we) l2 c2 k2;¤D2:Def K mg "leaf_letter" we ["word","kinds"]:=⟨f2,_,F2,F2.binds (ps:=["word","kinds"]) (λ_ _ _ _ _ _ us hl=>by ¶us2 (P:=λus=>bindArgs _ ⟨us,[]⟩=pure (List.zip _ us)) hl ?_;intros;rfl),PySem.W.mg_of X G a2⟩;¤F3:=bq (st:=vy) l3 c3 k3;¤D3:Def K mg "lies_upon" vy ["letter","shape_word","word"]:=⟨f3,_,F3,F3.binds (ps:=["letter","shape_word","word"]) (λ_ _ _ _ _ _ us hl=>by ¶us3 (P:=λus=>bindArgs _ ⟨us,[]⟩=pure (List.zip _ us)) hl ?_;intros;rfl),PySem.W.mg_of X G a3⟩;¤F4:=bq (st:=vc) l4 c4 k4;¤D4:Def K mg "laid" vc ["shape","kinds","words","place"]:=⟨f4,_,F4,F4.binds (ps:=["shape","kinds","words","place"]) (λ_ _ _ _ _ _ us hl=>by ¶us4 (P:=λus=>bindArgs _ ⟨us,[]⟩=pure (List.zip _ us)) hl ?_;intros;rfl),PySem.W.mg_of X G a4⟩;¤F5:=bq (st:=jn) l5 c5 k5;¤D5:Def K mg "holes_under" jn ["shape","kinds","under"]:=⟨f5,_,F5,F5.binds (ps:=["shape","kinds","under"]) (λ_ _ _ _ _ _ us hl=>by ¶us3 (P:=λus=>bindArgs _ ⟨us,[]⟩=pure (List.zip _ us)) hl ?_;intros;rfl),PySem.W.mg_of X G a5⟩;¤F6:=bq (st:=gv) l6 c6 k6;¤D6:Def K mg "fitting_rules" gv ["book","words","place"]:=⟨f6,_,F6,F6.binds (ps:=["book","words","place"]) (λ_ _ _ _ _ _ us hl=>by ¶us3 (P:=λus=>bindArgs _ ⟨us,[]⟩=pure (List.zip _ us)) hl ?_;intros;rfl),PySem.W.mg_of X G a6⟩;¤F7:=bq (st:=ng) l7 c7 k7;¤D7:Def K mg "price_there" ng ["own","holes","least"]:=⟨f7,_,F7,F7.binds (ps:=["own","holes","least"]) (λ_ _ _ _ _ _ us hl=>by ¶us3 (P:=λus=>bindArgs _ ⟨us,[]⟩=pure (List.zip _ us)) hl ?_;intros;rfl),PySem.W.mg_of X G a7⟩;¤F8:=bq (st:=ji) l8 c8 k8;¤D8:Def K mg "settle_part" ji ["place","fitting","least"]:=⟨f8,_,F8,F8.binds (ps:=["place","fitting","least"]) (λ_ _ _ _ _ _ us hl=>by ¶us3 (P:=λus=>bindArgs _ ⟨us,[]⟩=pure (List.zip _ us)) hl ?_;intros;rfl),PySem.W.mg_of X G a8⟩;¤F9:=bq (st:=uu) l9 c9 k9;¤D9:Def K mg "rules_with_price" uu ["kind","price","fitting","least"]:=⟨f9,_,F9,F9.binds (ps:=["kind","price","fitting","least"]) (λ_ _ _ _ _ _ us hl=>by ¶us4 (P:=λus=>bindArgs _ ⟨us,[]⟩=pure (List.zip _ us)) hl ?_;intros;rfl),PySem.W.mg_of X G a9⟩;¤F10:=bq (st:=mh) l10 c10 k10;¤D10:Def K mg "rows_of_part" mh ["book","place","fitting","least"]:=⟨f10,_,F10,F10.binds (ps:=["book","place","fitting","least"]) (λ_ _ _ _ _ _ us hl=>by ¶us4 (P:=λus=>bindArgs _ ⟨us,[]⟩=pure (List.zip _ us)) hl ?_;intros;rfl),PySem.W.mg_of X G a10⟩;¤F11:=bq (st:=mi) l11 c11 k11;¤D11:Def K mg "rows_with_all_rules" mi ["book","words"]:=⟨f11,_,F11,F11.binds (ps:=["book","words"]) (λ_ _ _ _ _ _ us hl=>by ¶us2 (P:=λus=>bindArgs _ ⟨us,[]⟩=pure (List.zip _ us)) hl ?_;intros;rfl),PySem.W.mg_of X G a11⟩;¤F12:=bq (st:=m9) l12 c12 k12;¤D12:Def K mg "is_table" m9 ["book","words","table"]:=⟨f12,_,F12,F12.binds (ps:=["book","words","table"]) (λ_ _ _ _ _ _ us hl=>by ¶us3 (P:=λus=>bindArgs _ ⟨us,[]⟩=pure (List.zip _ us)) hl ?_;intros;rfl),PySem.W.mg_of X G a12⟩;¤F13:=bq (st:=vv) l13 c13 k13;¤D13:Def K mg "_law_next" vv ["deck"]:=⟨f13,_,F13,F13.binds (ps:=["deck"]) (λ_ _ _ _ _ _ us hl=>by ¶us1 (P:=λus=>bindArgs _ ⟨us,[]⟩=pure (List.zip _ us)) hl ?_;intros;rfl),PySem.W.mg_of X G a13⟩;¤F14:=bq (st:=vg) l14 c14 k14;¤D14:Def K mg "_law_ends" vg ["words"]:=⟨f14,_,F14,F14.binds (ps:=["words"]) (λ_ _ _ _ _ _ us hl=>by ¶us1 (P:=λus=>bindArgs _ ⟨us,[]⟩=pure (List.zip _ us)) hl ?_;intros;rfl),PySem.W.mg_of X G a14⟩;¤F15:=bq (st:=mw) l15 c15 k15;¤D15:Def K mg "_law_laid" mw ["kinds","shape","words","ends","place"]:=⟨f15,_,F15,F15.binds (ps:=["kinds","shape","words","ends","place"]) (λ_ _ _ _ _ _ us hl=>by ¶us5 (P:=λus=>bindArgs _ ⟨us,[]⟩=pure (List.zip _ us)) hl ?_;intros;rfl),PySem.W.mg_of X G a15⟩;¤F16:=bq (st:=wu) l16 c16 k16;¤D16:Def K mg "_law_term" wu ["deck","names","most"]:=⟨f16,_,F16,F16.binds (ps:=["deck","names","most"]) (λ_ _ _ _ _ _ us hl=>by ¶us3 (P:=λus=>bindArgs _ ⟨us,[]⟩=pure (List.zip _ us)) hl ?_;intros;rfl),PySem.W.mg_of X G a16⟩;¤F17:=bq (st:=nq) l17 c17 k17;¤D17:Def K mg "_law_shape" nq ["deck","kinds"]:=⟨f17,_,F17,F17.binds (ps:=["deck","kinds"]) (λ_ _ _ _ _ _ us hl=>by ¶us2 (P:=λus=>bindArgs _ ⟨us,[]⟩=pure (List.zip _ us)) hl ?_;intros;rfl),PySem.W.mg_of X G a17⟩;¤F18:=bq (st:=mn) l18 c18 k18;¤D18:Def K mg "_law_deeds" mn ["kinds","shape"]:=⟨f18,_,F18,F18.binds (ps:=["kinds","shape"]) (λ_ _ _ _ _ _ us hl=>by ¶us2 (P:=λus=>bindArgs _ ⟨us,[]⟩=pure (List.zip _ us)) hl ?_;intros;rfl),PySem.W.mg_of X G a18⟩;¤F19:=bq (st:=wg) l19 c19 k19;¤D19:Def K mg "_law_book" wg ["deck","names"]:=⟨f19,_,F19,F19.binds (ps:=["deck","names"]) (λ_ _ _ _ _ _ us hl=>by ¶us2 (P:=λus=>bindArgs _ ⟨us,[]⟩=pure (List.zip _ us)) hl ?_;intros;rfl),PySem.W.mg_of X G a19⟩;¤F20:=bq (st:=m7) l20 c20 k20;¤D20:Def K mg "_law_names" m7 ["deck"]:=⟨f20,_,F20,F20.binds (ps:=["deck"]) (λ_ _ _ _ _ _ us hl=>by ¶us1 (P:=λus=>bindArgs _ ⟨us,[]⟩=pure (List.zip _ us)) hl ?_;intros;rfl),PySem.W.mg_of X G a20⟩;¤F21:=bq (st:=jx) l21 c21 k21;¤D21:Def K mg "_law_holes" jx ["kinds","shape"]:=⟨f21,_,F21,F21.binds (ps:=["kinds","shape"]) (λ_ _ _ _ _ _ us hl=>by ¶us2 (P:=λus=>bindArgs _ ⟨us,[]⟩=pure (List.zip _ us)) hl ?_;intros;rfl),PySem.W.mg_of X G a21⟩;¤F22:=bq (st:=mx) l22 c22 k22;¤D22:Def K mg "_law_fits" mx ["book","words"]:=⟨f22,_,F22,F22.binds (ps:=["book","words"]) (λ_ _ _ _ _ _ us hl=>by ¶us2 (P:=λus=>bindArgs _ ⟨us,[]⟩=pure (List.zip _ us)) hl ?_;intros;rfl),PySem.W.mg_of X G a22⟩;¤F23:=bq (st:=nj) l23 c23 k23;¤D23:Def K mg "_law_cost" nj ["rule","keys","least"]:=⟨f23,_,F23,F23.binds (ps:=["rule","keys","least"]) (λ_ _ _ _ _ _ us hl=>by ¶us3 (P:=λus=>bindArgs _ ⟨us,[]⟩=pure (List.zip _ us)) hl ?_;intros;rfl),PySem.W.mg_of X G a23⟩;¤F24:=bq (st:=ju) l24 c24 k24;¤D24:Def K mg "_law_least" ju ["fits"]:=⟨f24,_,F24,F24.binds (ps:=["fits"]) (λ_ _ _ _ _ _ us hl=>by ¶us1 (P:=λus=>bindArgs _ ⟨us,[]⟩=pure (List.zip _ us)) hl ?_;intros;rfl),PySem.W.mg_of X G a24⟩;¤F25:=bq (st:=jf) l25 c25 k25;¤D25:Def K mg "_law_reaching" jf ["fits","least"]:=⟨f25,_,F25,F25.binds (ps:=["fits","least"]) (λ_ _ _ _ _ _ us hl=>by ¶us2 (P:=λus=>bindArgs _ ⟨us,[]⟩=pure (List.zip _ us)) hl ?_;intros;rfl),PySem.W.mg_of X G a25⟩;¤F26:=bq (st:=jt) l26 c26 k26;¤D26:Def K mg "_law_any_table" jt ["deck","least","reaching"]:=⟨f26,_,F26,F26.binds (ps:=["deck","least","reaching"]) (λ_ _ _ _ _ _ us hl=>by ¶us3 (P:=λus=>bindArgs _ ⟨us,[]⟩=pure (List.zip _ us)) hl ?_;intros;rfl),PySem.W.mg_of X G a26⟩;¤F27:=bq (st:=jw) l27 c27 k27;¤D27:Def K mg "_law_lesser" jw ["table"]:=⟨f27,_,F27,F27.binds (ps:=["table"]) (λ_ _ _ _ _ _ us hl=>by ¶us1 (P:=λus=>bindArgs _ ⟨us,[]⟩=pure (List.zip _ us)) hl ?_;intros;rfl),PySem.W.mg_of X G a27⟩;¤F28:=bq (st:=uj) l28 c28 k28;¤D28:Def K mg "_law_due" uj ["table","least","reaching"]:=⟨f28,_,F28,F28.binds (ps:=["table","least","reaching"]) (λ_ _ _ _ _ _ us hl=>by ¶us3 (P:=λus=>bindArgs _ ⟨us,[]⟩=pure (List.zip _ us)) hl ?_;intros;rfl),PySem.W.mg_of X G a28⟩;¤F29:=bq (st:=ic) l29 c29 k29;¤D29:Def K mg "_law_changed" ic ["deck","table","book","names"]:=⟨f29,_,F29,F29.binds (ps:=["deck","table","book","names"]) (λ_ _ _ _ _ _ us hl=>by ¶us4 (P:=λus=>bindArgs _ ⟨us,[]⟩=pure (List.zip _ us)) hl ?_;intros;rfl),PySem.W.mg_of X G a29⟩;¤F30:=bq (st:=y8) l30 c30 k30;¶⟨PySem.W.fnOf "law" "law" (ay y8) (aw y8) (ah y8) .none kV30 dc30 pm30 an30 cd30 ct30,λs v=>.of_eq rfl,λbase _ _=>?_⟩;¤H0:Has l.prog w K mg base 1 "how_many_below" ["word"] vd:=hasHow (k:=0) G0   D0;¤H1:Has l.prog w K mg base 2 "place_behind" ["words","place"] (wd K):=Il (k:=1) G0 (H0.up (by decide))  D1;¤H2:Has l.prog w K mg base 1 "leaf_letter" ["word","kinds"] (jk K):=Ov (k:=0) G0   D2;¤H3:Has l.prog w K mg base 2 "lies_upon" ["letter","shape_word","word"] zw:=Pm (k:=1) G0 (H0.up (by decide))  D3;¤H4:Has l.prog w K mg base 3 "laid" ["shape","kinds","words","place"] (Ai K):=Pe (k:=2) G0 (H2.up (by decide)) (H3.up (by decide)) (H1.up (by decide))  D4;¤H5:Has l.prog w K mg base 2 "holes_under" ["shape","kinds","under"] (ou K):=Ia (k:=1) G0 (H2.up (by decide))  D5;¤H6:Has l.prog w K mg base 4 "fitting_rules" ["book","words","place"] kq:=Et (k:=3) G0 (H5.up (by decide)) (H4.up (by decide))  D6;¤H7:Has l.prog w K mg base 1 "price_there" ["own","holes","least"] jm:=M3 (k:=0) G0   D7;¤H8:Has l.prog w K mg base 2 "settle_part" ["place","fitting","least"] pb:=Hu (k:=1) G0 (H7.up (by decide))  D8;¤H9:Has l.prog w K mg base 2 "rules_with_price" ["kind","price","fitting","least"] zj:=hasWith (k:=1) G0 (H7.up (by decide))  D9;¤H10:Has l.prog w K mg base 3 "rows_of_part" ["book","place","fitting","least"] uh:=Kr (k:=2) G0 (H9.up (by decide))  D10;¤H11:Has l.prog w K mg base 5 "rows_with_all_rules" ["book","words"] uc:=Kv (k:=4) G0 (H6.up (by decide)) (H10.up (by decide)) (H8.up (by decide))  D11;¤H12:Has l.prog w K mg base 6 "is_table" ["book","words","table"] sj:=Mb (k:=5) G0 (H11.up (by decide))  D12;¤H13:Has l.prog w K mg base 1 "_law_next" ["deck"] gn:=hasNext (k:=0) G0   D13;¤H14:Has l.prog w K mg base 1 "_law_ends" ["words"] (ze K):=Ny (k:=0) G0   D14;¤H15:Has l.prog w K mg base 1 "_law_laid" ["kinds","shape","words","ends","place"] (ub K):=J6 (k:=0) G0   D15;¤H16:Has l.prog w K mg base 2 "_law_term" ["deck","names","most"] sk:=Ni (k:=1) G0 (H13.up (by decide))  D16;¤H17:Has l.prog w K mg base 2 "_law_shape" ["deck","kinds"] tf:=J5 (k:=1) G0 (H13.up (by decide))  D17;¤H18:Has l.prog w K mg base 1 "_law_deeds" ["kinds","shape"] (tj K):=Kw (k:=0) G0   D18;¤H19:Has l.prog w K mg base 3 "_law_book" ["deck","names"] y4:=Px (k:=2) G0 (H18.up (by decide)) (H13.up (by decide)) (H17.up (by decide))  D19;¤H20:Has l.prog w K mg base 2 "_law_names" ["deck"] oo:=Ll (k:=1) G0 (H13.up (by decide))  D20;¤H21:Has l.prog w K mg base 1 "_law_holes" ["kinds","shape"] (nz K):=Ib (k:=0) G0   D21;¤H22:Has l.prog w K mg base 2 "_law_fits" ["book","words"] ud:=Lo (k:=1) G0 (H14.up (by decide)) (H21.up (by decide)) (H15.up (by decide))  D22;¤H23:Has l.prog w K mg base 1 "_law_cost" ["rule","keys","least"] n8:=Jx (k:=0) G0   D23;¤H24:Has l.prog w K mg base 2 "_law_least" ["fits"] ox:=Hq (k:=1) G0 (H23.up (by decide))  D24;¤H25:Has l.prog w K mg base 2 "_law_reaching" ["fits","least"] pq:=Ha (k:=1) G0 (H23.up (by decide))  D25;¤H26:Has l.prog w K mg base 2 "_law_any_table" ["deck","least","reaching"] oj:=Hl (k:=1) G0 (H13.up (by decide))  D26;¤H27:Has l.prog w K mg base 1 "_law_lesser" ["table"] oh:=Iw (k:=0) G0   D27;¤H28:Has l.prog w K mg base 1 "_law_due" ["table","least","reaching"] zp:=Qv (k:=0) G0   D28;¤H29:Has l.prog w K mg base 2 "_law_changed" ["deck","table","book","names"] lz:=hasChanged (k:=1) G0 (H13.up (by decide))  D29;§hasLaw (k:=6) G0 (H26.up (by decide)) (H19.up (by decide)) (H29.up (by decide)) (H28.up (by decide)) (H22.up (by decide)) (H24.up (by decide)) (H27.up (by decide)) (H20.up (by decide)) (H13.up (by decide)) (H25.up (by decide)) (H16.up (by decide)) (H12.up (by decide))  F30
theorem walk {l:PySem.W.OpenLaw} {q:Program} {loose:List Str} {XP:(Str→Option Value)→Heap→Prop} {YP:World→Heap→Prop} {d:DefRec} {K:Params→PySem.W.Frag} (hn:l.most=some 63) (hdf:d.params.defaults=[])
  (hY:∀(w:World) (h:Heap),YP w h→(K w.params).In h)
  (F:∀(w:World) (mg:Str→Option Value) (fa:Addr) (h:Heap),(K w.params).In h→h.Ns mainGlobals mg→mg d.name=some (.ref fa)→
   ∃fd:FuncData,(∀(s:Shared) (u:Value),BindsTo s fd ⟨[u],[]⟩ [("script",u)])∧∀base:Heap,(K w.params).In base→base.Ns mainGlobals mg→qc l.prog w (K w.params) mg base CX0 7 fa fd ["script"] (Fp (K w.params))):
  PySem.W.WalkO q loose XP YP l.row.toRowW d [] (λf vs=>PySem.call f vs):=
 L2.Oh (n:=63) (k:=7) (x:="script") (CX:=λ_=>CX0) (sp:=λw=>Fp (K w.params)) hn (by decide) hdf ⟨rfl,by decide,by decide⟩ hY F (λ_ _ a ns hl _ hS=>⟨a,ns,rfl,hS,hl,λ_=>rfl⟩) λ_ _ _ _ _ z=>z
end K43
namespace PySem.W.Fast
def tw14269693852525555289:=()
def tw10681112158347176916:=()
def tw2237205437700888156:=()
def tw8390196666083785733:=()
def tw778555112530579824:=()
def tw17461393570987042307:=()
def tw6849830424757128523:=()
def tw48013756496737901:=()
def tw14741949482225721200:=()
def tw1518490758292352456:=()
def tw10091216091783519124:=()
def tw5463488447620845810:=()
def tw196365645802329706:=()
def tw4792013557884572442:=()
def tw10470679748853080673:=()
def tw18390661584350983741:=()
def tw8791597464440668004:=()
def tw15307597841409169421:=()
def tw11066906412205028255:=()
def tw1294061528931564924:=()
def tw16130416254222274669:=()
def tw3491126125005338219:=()
def tw14803535052931425535:=()
def tw16185712159206360314:=()
def tw8303902526906024699:=()
def tw7890564589444562:=()
def tw3849889740894950073:=()
def tw12125631130195348457:=()
def tw4831655176979506530:=()
def tw7010681733195430085:=()
def tw17981481564137808577:=()
def tw14254275126273963415:=()
def tw8450952258125555561:=()
def tw7220246606360091312:=()
def tw5919642008478802647:=()
def tw9185332061672250789:=()
def tw12005110568948722365:=()
def tw16944921764451967070:=()
def tw1843677378764975256:=()
def tw12292710233883709442:=()
def tw13220814270386532451:=()
def tw18121053853846784459:=()
def tw247173540918475812:=()
def tw16832994789375630645:=()
def tw12158288111394715788:=()
def tw14705141948842042269:=()
def tw9453766664936852855:=()
def tw3694701438421974988:=()
def tw7694349292613482890:=()
def tw10593501539120740865:=()
def tw7724134257313438086:=()
def tw14078475413129900397:=()
def tw3749531961708469045:=()
def tw11050481042582650762:=()
def tw9840597885675343309:=()
def tw16265452341682270666:=()
def tw9603320948052048780:=()
def tw12179689180050088959:=()
def tw5766673574228886245:=()
def tw12647622798934761841:=()
def tw10744782482150701750:=()
def tw11348267106082662536:=()
def tw12336193899383963281:=()
def tw2387040399203303771:=()
def tw18211614153005333053:=()
def tw10254280123414137034:=()
def tw10317596381194810144:=()
def tw11904854164543497693:=()
def tw3507218139166855411:=()
def tw9842152468793963548:=()
def tw8325130275337314387:=()
def tw3551032244792536310:=()
def tw1287922881138532082:=()
def tw8658119124742600865:=()
def tw16890600797011246297:=()
def tw9391922545173481452:=()
def tw2353357983034724668:=()
def tw10775317512846905201:=()
def tw13729515417957355940:=()
def tw5212595167291629920:=()
def tw14754934453985693222:=()
def tw12852998340467820026:=()
def tw10780826247544872502:=()
def tw11999316186397023215:=()
def tw11961925050173113492:=()
def tw2168730017383246998:=()
def tw11821337150408946460:=()
def tw13997377832599887849:=()
def tw4409899649465859771:=()
def tw9180197146608306304:=()
def tw3107754921349121815:=()
def tw819768840177393593:=()
def tw1917997646246904417:=()
def tw7350414254492330988:=()
def tw16915658933279653691:=()
def tw7688256061274929884:=()
def tw9756701780885546924:=()
def tw2810771956570992650:=()
def tw8532648584976643932:=()
def tw8226844310374376301:=()
def tw16121132598212088131:=()
def tw9704109436952252080:=()
def tw12030635673982708318:=()
def tw5909073371381673412:=()
def tw2063424979397799343:=()
def tw17665528347041776989:=()
def tw12032722351771773434:=()
def tw16717873627899280915:=()
def tw10529492720573949997:=()
def tw15196740316188439311:=()
def tw4490817060523008912:=()
def tw12684674396886865211:=()
def tw871258317181669391:=()
def tw10378652820500127193:=()
def tw1844616517702609127:=()
def tw5235178881892791934:=()
def tw189029604556472857:=()
def tw17571152511941337730:=()
def tw15730290125922884816:=()
def tw1712677778014941754:=()
def tw7461061870053378263:=()
def tw685202264895578526:=()
def tw2951803871204837277:=()
def tw12473904426428013344:=()
def tw16639950110216649254:=()
def tw7358055062294289444:=()
def tw13121916100077926026:=()
def tw3976663193181002729:=()
def tw697553417515212017:=()
def tw5167841804214606167:=()
def tw14749978339774521163:=()
def tw6836937700168180825:=()
def tw1283070582903598499:=()
def tw13840725468729460234:=()
def tw9474431207379964983:=()
def tw1647750151935794225:=()
def tw16944425347570888001:=()
def tw3180320322275120708:=()
def tw1368445769481308678:=()
def tw11151250124037317199:=()
def tw12282469762255555095:=()
def tw17609377910211810473:=()
def tw775310478741082428:=()
def tw8635660557766679017:=()
def tw5703707073872084550:=()
def tw8124224956710435700:=()
def tw12837837383919256271:=()
def tw7257531549496191000:=()
def tw6294874301015965899:=()
def tw17887670236513967716:=()
def tw16381587794292914431:=()
def tw3710491185837430407:=()
def tw6999041595055078360:=()
def tw3690098500620393054:=()
def tw9927403754406427025:=()
def tw10257374626752765423:=()
def tw4956772213584155529:=()
def tw11509621969872471890:=()
def tw50799514186449099:=()
def tw3654007927519553008:=()
def tw15027695189119198564:=()
def tw3085023730892903521:=()
def tw4494334803920236141:=()
def tw1400814073058627791:=()
def tw9897334713441990444:=()
def tw10299792117248721003:=()
def tw8016373295771569351:=()
def tw17064428420829838583:=()
def tw10174730351825706549:=()
def tw13525480853509894984:=()
def tw14673621900631034849:=()
def tw6990810328639652084:=()
def tw10597668068904427198:=()
def tw14736397509115054470:=()
def tw16880447373633431626:=()
def tw7513862177781286334:=()
def tw8965238006786781692:=()
def tw15913316508968017902:=()
def tw6731477927262732674:=()
def tw7002335087681705523:=()
def tw14258387629789636396:=()
def tw10802337002999084176:=()
def tw17643656231172305475:=()
def tw2571948269349583881:=()
def tw5344982358299793293:=()
def tw8794130075455184582:=()
def tw13067756329247022618:=()
def tw15039850259370182688:=()
def tw14318894202882426107:=()
end PySem.W.Fast
open PySem PySem.W PyProof.Rows
set_option maxRecDepth 100000 in
set_option maxHeartbeats 0 in
theorem PySem.Challenge.cw_pricecover_k43_is_table_holds : PySem.Challenge.rw_pricecover_k43_is_table.Holds := by
 w_on;o_law;k_head;(case hw=>w_witness2)
 k_fill
 refine K43.walk (l:=PySem.Challenge.rw_pricecover_k43_is_table) rfl rfl (fun w h Y=>PySem.W.kIn_of Y) ?F
 case F=>
  intro w mg fa h KX G hmg
  refine' K43.all_mk KX G hmg ?a0 ?l0 ?c0 ?k0 ?a1 ?l1 ?c1 ?k1 ?a2 ?l2 ?c2 ?k2 ?a3 ?l3 ?c3 ?k3 ?a4 ?l4 ?c4 ?k4 ?a5 ?l5 ?c5 ?k5 ?a6 ?l6 ?c6 ?k6 ?a7 ?l7 ?c7 ?k7 ?a8 ?l8 ?c8 ?k8 ?a9 ?l9 ?c9 ?k9 ?a10 ?l10 ?c10 ?k10 ?a11 ?l11 ?c11 ?k11 ?a12 ?l12 ?c12 ?k12 ?a13 ?l13 ?c13 ?k13 ?a14 ?l14 ?c14 ?k14 ?a15 ?l15 ?c15 ?k15 ?a16 ?l16 ?c16 ?k16 ?a17 ?l17 ?c17 ?k17 ?a18 ?l18 ?c18 ?k18 ?a19 ?l19 ?c19 ?k19 ?a20 ?l20 ?c20 ?k20 ?a21 ?l21 ?c21 ?k21 ?a22 ?l22 ?c22 ?k22 ?a23 ?l23 ?c23 ?k23 ?a24 ?l24 ?c24 ?k24 ?a25 ?l25 ?c25 ?k25 ?a26 ?l26 ?c26 ?k26 ?a27 ?l27 ?c27 ?k27 ?a28 ?l28 ?c28 ?k28 ?a29 ?l29 ?c29 ?k29 ?a30 ?l30 ?c30 ?k30 ?z0 ?z1 ?z2 ?z3 ?z4 ?z5 ?z6 ?z7 ?z8 ?z9 ?z10 ?z11 ?z12 ?y0 ?x0 ?hh0x0 ?hh0x1 ?hh0x2 ?hh0x3 ?ha0
  (case a0=>k_is)
  (case l0=>k_is)
  (case c0=>k_is)
  (case k0=>k_is)
  (case a1=>k_is)
  (case l1=>k_is)
  (case c1=>k_is)
  (case k1=>k_is)
  (case a2=>k_is)
  (case l2=>k_is)
  (case c2=>k_is)
  (case k2=>k_is)
  (case a3=>k_is)
  (case l3=>k_is)
  (case c3=>k_is)
  (case k3=>k_is)
  (case a4=>k_is)
  (case l4=>k_is)
  (case c4=>k_is)
  (case k4=>k_is)
  (case a5=>k_is)
  (case l5=>k_is)
  (case c5=>k_is)
  (case k5=>k_is)
  (case a6=>k_is)
  (case l6=>k_is)
  (case c6=>k_is)
  (case k6=>k_is)
  (case a7=>k_is)
  (case l7=>k_is)
  (case c7=>k_is)
  (case k7=>k_is)
  (case a8=>k_is)
  (case l8=>k_is)
  (case c8=>k_is)
  (case k8=>k_is)
  (case a9=>k_is)
  (case l9=>k_is)
  (case c9=>k_is)
  (case k9=>k_is)
  (case a10=>k_is)
  (case l10=>k_is)
  (case c10=>k_is)
  (case k10=>k_is)
  (case a11=>k_is)
  (case l11=>k_is)
  (case c11=>k_is)
  (case k11=>k_is)
  (case a12=>k_is)
  (case l12=>k_is)
  (case c12=>k_is)
  (case k12=>k_is)
  (case a13=>k_is)
  (case l13=>k_is)
  (case c13=>k_is)
  (case k13=>k_is)
  (case a14=>k_is)
  (case l14=>k_is)
  (case c14=>k_is)
  (case k14=>k_is)
  (case a15=>k_is)
  (case l15=>k_is)
  (case c15=>k_is)
  (case k15=>k_is)
  (case a16=>k_is)
  (case l16=>k_is)
  (case c16=>k_is)
  (case k16=>k_is)
  (case a17=>k_is)
  (case l17=>k_is)
  (case c17=>k_is)
  (case k17=>k_is)
  (case a18=>k_is)
  (case l18=>k_is)
  (case c18=>k_is)
  (case k18=>k_is)
  (case a19=>k_is)
  (case l19=>k_is)
  (case c19=>k_is)
  (case k19=>k_is)
  (case a20=>k_is)
  (case l20=>k_is)
  (case c20=>k_is)
  (case k20=>k_is)
  (case a21=>k_is)
  (case l21=>k_is)
  (case c21=>k_is)
  (case k21=>k_is)
  (case a22=>k_is)
  (case l22=>k_is)
  (case c22=>k_is)
  (case k22=>k_is)
  (case a23=>k_is)
  (case l23=>k_is)
  (case c23=>k_is)
  (case k23=>k_is)
  (case a24=>k_is)
  (case l24=>k_is)
  (case c24=>k_is)
  (case k24=>k_is)
  (case a25=>k_is)
  (case l25=>k_is)
  (case c25=>k_is)
  (case k25=>k_is)
  (case a26=>k_is)
  (case l26=>k_is)
  (case c26=>k_is)
  (case k26=>k_is)
  (case a27=>k_is)
  (case l27=>k_is)
  (case c27=>k_is)
  (case k27=>k_is)
  (case a28=>k_is)
  (case l28=>k_is)
  (case c28=>k_is)
  (case k28=>k_is)
  (case a29=>k_is)
  (case l29=>k_is)
  (case c29=>k_is)
  (case k29=>k_is)
  (case a30=>k_is)
  (case l30=>k_is)
  (case c30=>k_is)
  (case k30=>k_is)
  (case z0=>k_is)
  (case z1=>k_is)
  (case z2=>k_is)
  (case z3=>k_is)
  (case z4=>k_is)
  (case z5=>k_is)
  (case z6=>k_is)
  (case z7=>k_is)
  (case z8=>k_is)
  (case z9=>k_is)
  (case z10=>k_is)
  (case z11=>k_is)
  (case z12=>k_is)
  (case y0=>k_is)
  (case x0=>k_is)
  (case hh0x0=>first | rfl | k_is)
  (case hh0x1=>first | rfl | k_is)
  (case hh0x2=>first | rfl | k_is)
  (case hh0x3=>first | rfl | k_is)
  (case ha0=>first | rfl | decide | k_is)
#print axioms PySem.Challenge.cw_pricecover_k43_is_table_holds
