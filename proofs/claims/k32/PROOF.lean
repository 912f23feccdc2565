import PyProof.Rows.All
import Wide.All
import OpenK.AllK
import Wide.FinOn
import Lean
import PyProof.EqAt
import PyProof.EqKinds
import PyProof.TupleCall
import KE.KSortTup
import PyProof.EnumMake
import PyProof.EnumStmt
import PyProof.ListRange
import KE.KDictList
import PyProof.DictItems
import PyProof.DictIter
import PyProof.Draws
import PyProof.Rows.CallKwBuiltin
import PyProof.Rows.SortPure
import PyProof.Rows.SortRuns
import KE.KRevIter
import PyProof.ExcClass3
import PyProof.RulesAs
import PyProof.RaisesMany
import PyProof.InstStore
import PyProof.InstStoreFacts
import PyProof.ExcBaseAll.ValueError
import PyProof.ExcArgs
import PyProof.InstLoad
import PyProof.ExcAttrAll.ValueError
import KE.KIsAll
import PyProof.Rows.TupDisplay
import PyProof.ZipIter
import PyProof.DictUpdate
import PyProof.TupleIter
import PyProof.AttrMiss
import PyProof.ListNew
import PyProof.FactsAll.dict_1
import KE.KDictOf
import PyProof.Rows.ZipGen
import PyProof.AttrMissHeap
import PyProof.Rows.SetFrom
import PyProof.MeetsSeq
import PyProof.Rows.SeqCalls
import PyProof.AutoListH
import PyProof.SeqI3
import PySem.Challenge.RW_pricecover_k32_bad_rows
set_option Elab.async false
set_option bootstrap.genMatcherCode false
set_option linter.all false
set_option maxRecDepth 100000
set_option maxHeartbeats 4000000
open Or renaming inr → aa0,inl → aa1
open List renaming length_map → aa2,length_append → aa4,getElem?_eq_getElem → aa5,mem_cons_self → aa6,length_cons → aa8,length_take → aaa,mem_cons_of_mem → aab,map_append → aad,size_toArray → aae,length_drop → aaf,getElem?_map → aag,mem_append_right → aai,filterMap_append → aaj,getD_eq_getElem?_getD → aam,map_cons → aao,mem_of_getElem? → aap,append_nil → aaq,not_mem_nil → aar,take_length → aat,zip → aau,mem_cons → aav,getElem_mem → aaw,take_add_one → aax,getElem?_append_right → aaz,contains_cons → ab2,getElem?_append_left → ab6,mem_of_mem_drop → ab8,mem_of_mem_take → ab9,Nodup → aba,replicate → abd,range → abf,length_nil → abg,length_replicate → abi,length_singleton → abj,getElem?_take_of_lt → abk,mem_append_left → abl,find?_cons → abm,map_map → abo,map_take → abv,eq_nil_of_length_eq_zero → abw,filter_cons → abx,take_append_drop → abz,filterMap_cons → ac3,take_of_length_le → ac5,lookup_cons → ac7,all_eq_true → ac8,any_cons → aca,length_set → acf,map_nil → acg,length_filterMap_le → aci,getElem?_cons_succ → ack,length_range → acm,append_assoc → acn,getElem?_set_self → aco,drop_eq_nil_of_le → acq,length_filter_le → acs,getElem?_set_ne → acv,range_succ → acz,mem_singleton → ad2,filter_append → ad3,getElem?_drop → ad4,sum_cons → ad6,drop_eq_getElem_cons → ada,getElem?_replicate → adi,of_mem_zip → adk,mem_append → ado,head?_eq_getElem? → adp,getElem?_toArray → ads,getElem?_of_mem → adt,map → adu,map_drop → adw,replicate_succ → adx,getElem_range → adz,all_map → ae1,any_eq_false → ae3,take_sublist → ae4,getElem?_set → ae8,getElem_inj → ae9,cons_append → aeb,filter_nil → aee
open Nat renaming le_refl → aa3,lt_of_succ_lt → aa9,lt_of_lt_of_le → aah,le_trans → aak,ne_of_lt → aas,lt_of_le_of_lt → ab1,zero_le → ab7,lt_irrefl → abp,toDigits → abr,le_succ_of_le → abt,ne_of_gt → aby,le_succ → ac2,toDigits_of_lt_base → ac4,sub_self → ach,log2_le_self → acr,not_lt_zero → acy,toDigits_append_toDigits → ad0,lt_trichotomy → ad8,le_of_lt → adb,succ_le_succ → adh,add_sub_cancel_left → adj,min_eq_left → adn,log2_lt → adq,add_comm → ae0,lt_succ_of_lt → ae6,le_of_not_lt → aea,succ_ne_self → aec,div_add_mod → aed
open Bool renaming false_and → aa7,and_false → aal,false_ne_true → aan,true_and → ab0,true_or → ab3,or_true → ab4,and_eq_true → abb,false_or → ac0,not_eq_true' → ac6,eq_iff_iff → ace,false_eq_true → ad1,not_eq_false → ad9,noConfusion → adg,or_eq_true → adl,or_false → adv,eq_false_iff → ae7
open Option.some renaming inj → aac
open And renaming intro → aay
open List.cons renaming inj → ab5,injEq → adm
open Int renaming toNat → abe,emod_nonneg → abh,emod_lt_of_pos → abq,negSucc → acb,fdiv_eq_ediv_of_nonneg → ad5,toNat_natCast → ad7
open Array renaming length_toList → abn,size_append → abu,getElem?_eq_getElem → ac1,toList_append → acd,eq_empty_of_size_eq_zero → acx,append_assoc → ady
open Option renaming bind_some → ac9,toList_some → acj,none → acp,map_some → acw,getD_none → ade,isSome_map → ae5
open Iff renaming rfl → acu
open Nat.succ renaming inj → adf
open Exists renaming intro → ae2
local macro_rules | `(tactic| omega)=>`(tactic| first | lia | omega +splitNatSub)
namespace L2
open PySem PySem.Spec PyProof.Rows
abbrev Key:=Sum Int Str
noncomputable def ub:Key→Value→Bool
 | .inl k,v=>Value.isInt k v
 | .inr x,v=>Value.isStrOf x v
noncomputable def keyH (w:World):Key→Int
 | .inl k=>hashInt k
 | .inr x=>hashStr w x
theorem b7:∀{k:Key} {v:Value},ub k v=true→(∃i t,k=Sum.inl i∧v=Value.int i t)∨(∃x t,k=Sum.inr x∧v=Value.str x t)
 | .inl i,v,h=>by
  obtain ⟨t,e⟩:=Value.isInt_shape (k:=i) (v:=v) h;exact .inl ⟨i,t,rfl,e⟩
 | .inr x,v,h=>by
  obtain ⟨t,e⟩:=Value.isStrOf_shape (x:=x) (v:=v) h;exact .inr ⟨x,t,rfl,e⟩
theorem Fs (i:Int) (t:Tok):ub (.inl i) (.int i t)=true:=by simp[ub,Value.isInt]
theorem Fc (x:Str) (t:Tok):ub (.inr x) (.str x t)=true:=by simp[ub,Value.isStrOf]
theorem key_ll (a b:Int):decide ((Sum.inl a:Key)=Sum.inl b)=(a==b):=by
 by_cases e:a=b
 ·subst e;simp
 ·have h:¬(Sum.inl a:Key)=Sum.inl b:=λq=>e (Sum.inl.inj q);rw[decide_eq_false h];exact (beq_eq_false_iff_ne.mpr e).symm
theorem key_rr (a b:Str):decide ((Sum.inr a:Key)=Sum.inr b)=decide (a=b):=by
 by_cases e:a=b
 ·subst e;simp
 ·have h:¬(Sum.inr a:Key)=Sum.inr b:=λq=>e (Sum.inr.inj q);rw[decide_eq_false h,decide_eq_false e]
theorem key_lr (a:Int) (b:Str):decide ((Sum.inl a:Key)=Sum.inr b)=false:=decide_eq_false (λq=>nomatch q)
theorem key_rl (a:Str) (b:Int):decide ((Sum.inr a:Key)=Sum.inl b)=false:=decide_eq_false (λq=>nomatch q)
noncomputable def bu (prog:Program) (w:World):PySem.KeyKind prog w Key where
 is:=ub
 hash:=keyH w
 inj:=λv a b ha hb=>by
  rcases b7 ha with ⟨i,t,rfl,rfl⟩ | ⟨x,t,rfl,rfl⟩
  ·rcases b7 hb with ⟨j,u,rfl,e⟩ | ⟨y,u,rfl,e⟩
   ·injection e with e1 _;rw[e1]
   ·exact nomatch e
  ·rcases b7 hb with ⟨j,u,rfl,e⟩ | ⟨y,u,rfl,e⟩
   ·exact nomatch e
   ·injection e with e1 _;rw[e1]
 byValue:=λk v h=>by
  rcases b7 h with ⟨i,t,rfl,rfl⟩ | ⟨x,t,rfl,rfl⟩ <;> rfl
 pyHash:=λhv h=>by
  rcases b7 hv with ⟨i,t,rfl,rfl⟩ | ⟨x,t,rfl,rfl⟩
  ·exact wpAny_pyHash_int h
  ·exact wpAny_pyHash_str h
 eqBool:=λhu hv h=>by
  rcases b7 hu with ⟨i,t,rfl,rfl⟩ | ⟨x,t,rfl,rfl⟩
  ·rcases b7 hv with ⟨j,u,rfl,rfl⟩ | ⟨y,u,rfl,rfl⟩
   ·rw[key_ll] at h;exact wpAny_eqBool_int h
   ·rw[key_lr] at h;exact SeqAt.EqAt.int_str i t y u _ _ _ _ h
  ·rcases b7 hv with ⟨j,u,rfl,rfl⟩ | ⟨y,u,rfl,rfl⟩
   ·rw[key_rl] at h;exact SeqAt.EqAt.str_int x t j u _ _ _ _ h
   ·rw[key_rr] at h;exact wpAny_eqBool_str h
 «strs»:=λk x t v h=>by
  rcases b7 h with ⟨i,u,rfl,e⟩ | ⟨y,u,rfl,e⟩
  ·exact nomatch e
  ·injection e with e1 _
   subst e1;cases v <;> rfl
theorem zi (prog:Program) (w:World) (i:Int) (t:Tok):(bu prog w).is (.inl i) (.int i t)=true:=Fs i t
theorem ja (prog:Program) (w:World) (x:Str) (t:Tok):(bu prog w).is (.inr x) (.str x t)=true:=Fc x t
inductive V where
 | non | bl (b:Bool) | int (i:Int) | str (x:Str) | byt (b:Array UInt8) | flt (b:UInt64) | ref (a:Addr) | ty (n:String)
 deriving DecidableEq
def RelV:V→Value→Prop
 | .non,u=>u=Value.none
 | .bl b,u=>u=Value.bool b
 | .int i,u=>∃t,u=Value.int i t
 | .str x,u=>∃t,u=Value.str x t
 | .byt b,u=>∃t,u=Value.bytes b t
 | .flt b,u=>∃t,u=Value.float b t
 | .ref a,u=>u=Value.ref a
 | .ty n,u=>u=Value.type n
abbrev Vals:List V→List Value→Prop:=Paired RelV
theorem Vals.length {xs:List V} {us:List Value} (r:Vals xs us):xs.length=us.length:=Paired.length r
theorem Vals.get:∀{xs:List V} {us:List Value} {i:Nat} {x:V},Vals xs us→xs[i]?=some x→∃u,us[i]?=some u∧RelV x u
 | _,_,_,_,.nil,e=>by simp at e
 | _,_,0,_,.cons r _,e=>by simp at e;subst e;exact ⟨_,rfl,r⟩
 | _,_,i+1,x,.cons _ t,e=>by
  obtain ⟨u,h1,h2⟩:=Vals.get (i:=i) (x:=x) t (by simpa using e);exact ⟨u,by simpa using h1,h2⟩
theorem Vals.set {x:V} {u:Value} (r:RelV x u):∀{xs:List V} {us:List Value} (i:Nat),Vals xs us→Vals (xs.set i x) (us.set i u)
 | _,_,_,.nil=>.nil
 | _,_,0,.cons _ t=>.cons r t
 | _,_,i+1,.cons q t=>.cons q (Vals.set r i t)
theorem Vals.append:∀{xs ys:List V} {us ws:List Value},Vals xs us→Vals ys ws→Vals (xs++ys) (us++ws)
 | _,_,_,_,.nil,s=>s
 | _,_,_,_,.cons r t,s=>.cons r (Vals.append t s)
theorem Vals.take:∀{xs:List V} {us:List Value} (n:Nat),Vals xs us→Vals (xs.take n) (us.take n)
 | _,_,0,_=>.nil
 | _,_,_+1,.nil=>.nil
 | _,_,n+1,.cons r t=>.cons r (Vals.take n t)
theorem Vals.drop:∀{xs:List V} {us:List Value} (n:Nat),Vals xs us→Vals (xs.drop n) (us.drop n)
 | _,_,0,r=>r
 | _,_,_+1,.nil=>.nil
 | _,_,n+1,.cons _ t=>Vals.drop n t
def dq:Option V→Option Value→Prop
 | some v,some u=>RelV v u
 | none,none=>True
 | _,_=>False
def KV {κ:Type}:List (κ×V)→List (κ×Value)→Prop:=Paired λ(p:κ×V) (q:κ×Value)=>p.1=q.1∧RelV p.2 q.2
noncomputable def kV:Key→V
 | .inl i=>.int i
 | .inr x=>.str x
inductive HO where
  | lst (xs:List V)
  | tup (xs:List V)
  | dK (kvs:List (Key×V)) | dT (kvs:List (List Key×V))
  | set (S:Int→Bool) (n:Nat)
  | ins (C dx:Addr) (fs:List (Str×V))
  | own (x:Addr)
  | xd (fs:List (Str×V))
  | met (f x:Addr)
  | rng (lo hi:Int)
  | frz (o:Obj) (u:HO)
  | tbl (ps:Array Value)
  | ext (φ:Heap→Prop)
abbrev Hp:=Addr→Option HO
noncomputable def upd (H:Hp) (a:Addr) (o:HO):Hp:=λb=>if b=a then some o else H b
theorem aa {H:Hp} {a:Addr} {o:HO}:upd H a o a=some o:=by unfold upd;rw[if_pos rfl]
theorem ai {H:Hp} {a b:Addr} {o:HO} (h:b≠a):upd H a o b=H b:=by unfold upd;rw[if_neg h]
theorem ui {H:Hp} {a b:Addr} {o u:HO} (h:H a=some o) (h':H b=some u) (d:o≠u):a≠b:=by
 intro e;subst e;rw[h] at h';exact d (aac h')
theorem aq {H:Hp} {a b:Addr} {o:HO} (h:H a=some o) (h':H b=none):a≠b:=by
 intro e;subst e;rw[h] at h';cases h'
section
variable (P:Program) (w:World)
def Ct (h:Heap) (a:Addr) (its:Array Value):Prop:=∃o,h.get? a=some o∧o.cls=.type "tuple"∧∃n,o.data=.seq its n∧o.dict=none
theorem Ct.tup {h:Heap} {a:Addr} {its:Array Value} (x:Ct h a its):IsTup h a its:=let ⟨o,h1,h2,n,h3,_⟩:=x;⟨o,h1,h2,n,h3⟩
def b4 (H:Hp) (h:Heap) (a:Addr):HO→Prop
 | .lst xs=>xs.length≤sizeLine∧∃(its:List Value) (n:Nat),Vals xs its∧h.get? a=some { cls:=.type "list",data:=.seq its.toArray n }
 | .tup xs=>xs.length≤sizeLine∧∃its:List Value,Vals xs its∧Ct h a its.toArray
 | .dK kvs=>kvs.length≤sizeLine∧(a==sysModules)=false∧∃vs,KV kvs vs∧h.DictOf (bu P w) a vs
 | .dT kvs=>kvs.length≤sizeLine∧(a==sysModules)=false∧∃xs:List (List Key×Addr×Value),
   Paired (λ(p:List Key×V) (q:List Key×Addr×Value)=>p.1=q.1∧H q.2.1=some (.tup (p.1.map kV))∧RelV p.2 q.2.2) kvs xs∧
   ∃o es ep,h.get? a=some o∧o.ExactDict∧o.data=.dict es ep∧es.toList=xs.map (entryOfKey (tupleKind (bu P w)))∧(xs.map (·.1)).Nodup
 | .set S n=>h.SetOf (intKind P w) a S n
 | .ins C dx fs=>H dx=some (.own a)∧fs.length≤1000∧dx≠a∧h.get? a=some (PySem.W.instObj C dx)∧
   ∃mA,h.Ns1 dx mA∧(∀f,dq (fs.lookup f) (mA f))∧PySem.Within mA (fs.map (·.1))
 | .own _=>∃o,h.get? a=some o
 | .xd fs=>∃mA,h.Ns1 a mA∧∀f,dq (fs.lookup f) (mA f)
 | .rng lo hi=>∃t u v,h.get? a=some { cls:=.type "range",data:=.fields #[.int lo t,.int hi u,.int 1 v] }
 | .frz o u=>h.get? a=some o∧b4 H h a u
 | .tbl ps=>h.get? a=some { cls:=.none,data:=.fields ps }
 | .met f x=>h.get? a=some (PySem.W.methodObj (.ref f) (.ref x))
 | .ext φ=>φ h∧(∃o,h.get? a=some o)∧∀h1 h2:Heap,φ h1→(∀o,h1.get? a=some o→h2.get? a=some o)→φ h2
def HOk (H:Hp) (h:Heap):Prop:=∀a o,H a=some o→b4 P w H h a o
end
section
variable {P:Program} {w:World} {H H':Hp} {h h':Heap} {a:Addr} {o:HO}
theorem b4.lt (x:b4 P w H h a o):a < h.objs.size:=by
 cases o with
 | lst xs=>obtain ⟨_,_,_,_,e⟩:=x;exact Heap.lt_size e
 | tup xs=>obtain ⟨_,_,_,p⟩:=x;exact p.tup.lt
 | dK kvs=>obtain ⟨_,_,_,_,o,_,_,e,_⟩:=x;exact Heap.lt_size e
 | dT kvs=>obtain ⟨_,_,_,_,o,_,_,e,_⟩:=x;exact Heap.lt_size e
 | set S n=>obtain ⟨o,_,_,_,e,_⟩:=x;exact Heap.lt_size e
 | ins C dx fs=>obtain ⟨_,_,_,e,_⟩:=x;exact Heap.lt_size e
 | own y=>obtain ⟨_,e⟩:=x;exact Heap.lt_size e
 | xd fs=>obtain ⟨_,⟨_,_,_,e,_⟩,_⟩:=x;exact Heap.lt_size e
 | rng lo hi=>obtain ⟨_,_,_,e⟩:=x;exact Heap.lt_size e
 | frz ob u=>obtain ⟨e,_⟩:=x;exact Heap.lt_size e
 | tbl ps=>exact Heap.lt_size (show h.get? a=some _ from x)
 | met f y=>exact Heap.lt_size (show h.get? a=some _ from x)
 | ext φ=>obtain ⟨_,⟨_,e⟩,_⟩:=x;exact Heap.lt_size e
theorem Paired.mapP {α β:Type} {F G:α→β→Prop}:∀{l₁:List α} {l₂:List β},Paired F l₁ l₂→(∀a b,F a b→G a b)→Paired G l₁ l₂
 | _,_,.nil,_=>.nil
 | _,_,.cons r t,f=>.cons (f _ _ r) (Paired.mapP t f)
theorem b4.rq (x:b4 P w H h a o) (k:∀b u,(b=a∨H b=some (.own a))→h.get? b=some u→h'.get? b=some u)
  (ho:∀b,H b=some (.own a)→H' b=some (.own a)) (ht:∀b xs,H b=some (.tup xs)→H' b=some (.tup xs)):b4 P w H' h' a o:=by
 induction o with
 | lst xs=>obtain ⟨z,its,n,r,e⟩:=x;exact ⟨z,its,n,r,k _ _ (.inl rfl) e⟩
 | tup xs=>obtain ⟨z,its,r,ob,e,c⟩:=x;exact ⟨z,its,r,ob,k _ _ (.inl rfl) e,c⟩
 | dK kvs=>obtain ⟨z,y,vs,r,ob,es,ep,e,c⟩:=x;exact ⟨z,y,vs,r,ob,es,ep,k _ _ (.inl rfl) e,c⟩
 | dT kvs=>
  obtain ⟨z,y,xs,r,ob,es,ep,e,c⟩:=x;exact ⟨z,y,xs,Paired.mapP r λp q z=>⟨z.1,ht _ _ z.2.1,z.2.2⟩,ob,es,ep,k _ _ (.inl rfl) e,c⟩
 | set S n=>obtain ⟨ob,es,ep,t,e,c⟩:=x;exact ⟨ob,es,ep,t,k _ _ (.inl rfl) e,c⟩
 | ins C dx fs=>
  obtain ⟨d,z,ne,e,mA,⟨od,es,ep,e2,c⟩,r⟩:=x;exact ⟨ho _ d,z,ne,k _ _ (.inl rfl) e,mA,⟨od,es,ep,k _ _ (.inr d) e2,c⟩,r⟩
 | own y=>obtain ⟨ob,e⟩:=x;exact ⟨ob,k _ _ (.inl rfl) e⟩
 | xd fs=>obtain ⟨mA,⟨od,es,ep,e,c⟩,r⟩:=x;exact ⟨mA,⟨od,es,ep,k _ _ (.inl rfl) e,c⟩,r⟩
 | rng lo hi=>obtain ⟨t,u,v,e⟩:=x;exact ⟨t,u,v,k _ _ (.inl rfl) e⟩
 | frz ob u ih=>obtain ⟨e,q⟩:=x;exact ⟨k _ _ (.inl rfl) e,ih q⟩
 | tbl ps=>
  have e:h.get? a=some { cls:=.none,data:=.fields ps }:=x;show h'.get? a=some { cls:=.none,data:=.fields ps }
  exact k a _ (.inl rfl) e
 | met f y=>
  have e:h.get? a=some (PySem.W.methodObj (.ref f) (.ref y)):=x;show h'.get? a=some (PySem.W.methodObj (.ref f) (.ref y))
  exact k a _ (.inl rfl) e
 | ext φ=>obtain ⟨p,⟨o,e⟩,st⟩:=x;exact ⟨st _ _ p λo q=>k _ _ (.inl rfl) q,⟨o,k _ _ (.inl rfl) e⟩,st⟩
theorem HOk.lt (x:HOk P w H h) (e:H a=some o):a < h.objs.size:=(x a o e).lt
theorem HOk.fresh (x:HOk P w H h) (e:h.objs.size≤a):H a=none:=by
 cases q:H a with
 | none=>rfl
 | some u=>exact absurd (aah (x.lt q) e) (abp _)
theorem HOk.kept (x:HOk P w H h) (k:∀b u,h.get? b=some u→h'.get? b=some u):HOk P w H h':=λa o e=>
 (x a o e).rq (λb u _ q=>k b u q) (λ_ q=>q) λ_ _ q=>q
theorem HOk.laid (x:HOk P w H h) (k:∀b u,h.get? b=some u→h'.get? b=some u) (hp:h.objs.size≤a) (new:b4 P w (upd H a o) h' a o):HOk P w (upd H a o) h':=λb u e=>by
 have hn:=x.fresh hp;by_cases hb:b=a
 ·subst hb;rw[aa] at e;cases e;exact new
 ·rw[ai hb] at e;exact (x b u e).rq (λc v _ q=>k c v q) (λc q=>by rw[ai (aq q hn)];exact q) λc xs q=>by rw[ai (aq q hn)];exact q
end
def Rd (H:Hp) (a:Addr) (u:HO):Prop:=H a=some u∨∃o,H a=some (.frz o u)
theorem Rd.ok {P:Program} {w:World} {H:Hp} {h:Heap} {a:Addr} {u:HO} (r:Rd H a u) (x:HOk P w H h):b4 P w H h a u:=by
 rcases r with r | ⟨o,r⟩
 ·exact x a u r
 ·obtain ⟨_,q⟩:=x a _ r;exact q
def Mut:Option HO→Prop
 | some (.lst _)=>True
 | some (.dK _)=>True
 | some (.dT _)=>True
 | some (.set _ _)=>True
 | some (.ins _ _ _)=>True
 | some (.ext _)=>True
 | _=>False
section
variable {P:Program} {w:World} {H:Hp} {h h':Heap} {x e:Addr} {o':HO}
theorem HOk.write (ok:HOk P w H h) (mu:Mut (H x)) (he:e=x∨H e=some (.own x)) (k:∀b u,b≠e→h.get? b=some u→h'.get? b=some u) (heo:∃u,h'.get? e=some u)
  (new:b4 P w (upd H x o') h' x o'):HOk P w (upd H x o') h':=λb u q=>by
 have nown:∀c y,H c=some (.own y)→c≠x:=λc y r z=>by subst z;rw[r] at mu;exact mu
 have ntup:∀c xs,H c=some (.tup xs)→c≠x:=λc xs r z=>by subst z;rw[r] at mu;exact mu
 by_cases hb:b=x
 ·subst hb;rw[aa] at q;cases q;exact new
 ·rw[ai hb] at q;by_cases hbe:b=e
  ·have q':H b=some (.own x):=by
    rcases he with z | z
    ·exact absurd (hbe.trans z) hb
    ·rw[hbe];exact z
   rw[q] at q';cases q';obtain ⟨v,hv⟩:=heo;exact ⟨v,by rw[hbe];exact hv⟩
  ·refine (ok b u q).rq (λc v hc r=>k c v ?_ r) (λc r=>by rw[ai (nown c b r)];exact r) λc xs r=>by rw[ai (ntup c xs r)];exact r
   rcases hc with rfl | hc
   ·exact hbe
   ·rintro rfl;rcases he with z | z
    ·exact nown c b hc z
    ·rw[hc] at z;cases z;exact hb rfl
end
structure Un (fs ex:List Addr) (H H':Hp) (h h':Heap):Prop where
 keep:∀b o,h.get? b=some o→H b=none→b∉fs→b∉ex→h'.get? b=some o
 slot:∀b o,h.get? b=some o→H b=none→b∈fs→b∉ex→∃sl,h'.get? b=some { o with slots:=sl }
 free:∀b o,h.get? b=some o→H b=none→b∉ex→H' b=none
 there:∀b o,h.get? b=some o→b∉ex→∃o',h'.get? b=some o'
 tups:∀b xs,H b=some (.tup xs)→H' b=some (.tup xs)
 frzs:∀b o u,H b=some (.frz o u)→H' b=some (.frz o u)
 tbls:∀b ps,H b=some (.tbl ps)→∃more,H' b=some (.tbl (ps++more))
section
variable {fs fs' ex ex':List Addr} {H H1 H2:Hp} {h h1 h2 h':Heap} {a x e:Addr} {o:HO}
theorem Un.any (u:Un fs ex H H1 h h1) {b:Addr} {ob:Obj} (q:h.get? b=some ob) (n:H b=none) (hx:b∉ex):∃sl,h1.get? b=some { ob with slots:=sl }:=by
 by_cases hb:b∈fs
 ·exact u.slot b ob q n hb hx
 ·exact ⟨ob.slots,u.keep b ob q n hb hx⟩
theorem Un.kept (k:∀b u,h.get? b=some u→h'.get? b=some u):Un fs ex H H h h':=
 ⟨λb ob q _ _ _=>k b ob q,λb ob q _ _ _=>⟨ob.slots,k b ob q⟩,λ_ _ _ n _=>n,λb ob q _=>⟨ob,k b ob q⟩,λ_ _ q=>q,λ_ _ _ q=>q,λ_ ps q=>⟨#[],by rw[q];simp⟩⟩
theorem Un.refl:Un fs ex H H h h:=Un.kept λ_ _ q=>q
theorem Un.laid (k:∀b u,h.get? b=some u→h'.get? b=some u) (hp:h.objs.size≤a) (hn:H a=none):Un fs ex H (upd H a o) h h' where
 keep:=λb u q _ _ _=>k b u q
 slot:=λb u q _ _ _=>⟨u.slots,k b u q⟩
 free:=λb u q n _=>by rw[ai (aas (aah (Heap.lt_size q) hp))];exact n
 there:=λb u q _=>⟨u,k b u q⟩
 tups:=λb xs q=>by rw[ai (aq q hn)];exact q
 frzs:=λb u xs q=>by rw[ai (aq q hn)];exact q
 tbls:=λb ps q=>⟨#[],by rw[ai (aq q hn),q];simp⟩
theorem Un.write (mu:Mut (H x)) (he:e=x∨H e=some (.own x)) (k:∀b u,b≠e→h.get? b=some u→h'.get? b=some u) (heo:∃u,h'.get? e=some u):Un fs ex H (upd H x o) h h':=by
 have hx:∀b,H b=none→b≠x:=λb n z=>by subst z;rw[n] at mu;exact mu
 have hb:∀b,H b=none→b≠e:=λb n z=>by
  subst z;rcases he with r | r
  ·exact hx b n r
  ·rw[n] at r;cases r
 have hm:∀b u,H b=some u→¬Mut (some u)→b≠x:=λb u q nm z=>by subst z;rw[q] at mu;exact nm mu
 refine ⟨λb u q n _ _=>k b u (hb b n) q,λb u q n _ _=>⟨u.slots,k b u (hb b n) q⟩,λb u q n _=>by rw[ai (hx b n)];exact n,λb u q _=>?_,
  λb xs q=>by rw[ai (hm b _ q λz=>z)];exact q,λb u xs q=>by rw[ai (hm b _ q λz=>z)];exact q,λb ps q=>⟨#[],by rw[ai (hm b _ q λz=>z),q];simp⟩⟩
 by_cases hbe:b=e
 ·subst hbe;exact heo
 ·exact ⟨u,k b u hbe q⟩
end
noncomputable def trk (h:Heap) (H:Hp):List Addr:=(abf h.objs.size).filter λa=>(H a).isSome
noncomputable def wx (h:Heap) (H:Hp):Heap:=PySem.W.hideAll h (trk h H)
theorem E8 (h:Heap) (H:Hp):(wx h H).objs.size=h.objs.size:=PySem.W.hideAll_size _ _
theorem Ju {h:Heap} {H:Hp} {b:Addr} {o:Obj} (e:h.get? b=some o) (n:H b=none):(wx h H).get? b=some o:=
 PySem.W.hideAll_get _ e λhm=>by
  have q:(H b).isSome=true:=(List.mem_filter.mp hm).2;rw[n] at q;simp at q
theorem M7 {h:Heap} {H:Hp} {b:Addr} {o:Obj} (e:(wx h H).get? b=some o):h.get? b=some o∧H b=none:=by
 have e':h.get? b=some o:=PySem.W.of_hideAll (trk h H) e;refine ⟨e',?_⟩;cases q:H b with
 | none=>rfl
 | some x=>
  have hm:b∈trk h H:=List.mem_filter.mpr ⟨List.mem_range.mpr (Heap.lt_size e'),by simp[q]⟩;have z:(wx h H).get? b=none:=PySem.W.hideAll_none (trk h H) hm;rw[z] at e;cases e
noncomputable def L4 (g h:Heap) (L:Addr):List (Addr×Obj):=(abf h.objs.size).filterMap λa=>if a=L∨(g.get? a).isSome=true then none else (h.get? a).map λo=>(a,o)
noncomputable def rest (g h:Heap) (L d:Addr):List (Addr×Obj):=(L4 g h L).filter λp=>decide (p.1≠d)
structure Mod (K:PySem.W.Frag) (mg:Str→Option Value) (base:Heap):Prop where
 kin:K.In base
 glob:base.Ns mainGlobals mg
 blt:∃mb,base.Ns builtinsNs mb∧∀x:Str,x≠"__name__"→mb x=bootBuiltins x
 nolimit:base.NoLimit
structure Cx where
 prog:Program
 w:World
 K:PySem.W.Frag
 mg:Str→Option Value
 base:Heap
 A:Around
 N:List Str
 s₀:Shared
 H₀:Hp
 env:Env
 outer:List Env
 stack:List Env
 ex:List Addr
 fn:Str→Bool
 calm:Bool
 pn:List (Addr×Obj)
 xe:Value→Shared→Prop
noncomputable def frs (l:List Env):List Addr:=l.filterMap (·.frame)
noncomputable abbrev Cx.fs (X:Cx):List Addr:=frs X.outer
def Vis (sc:Scope) (x:Str):Prop:=sc.names.lookup x=some .local∨sc.names.lookup x=some .cell∨sc.names.lookup x=some .free
def Loc (sc:Scope) (x:Str):Prop:=sc.names.lookup x=some .local∨sc.names.lookup x=some .cell
def Look (env:Env) (h:Heap) (m:Str→Option Value) (x:Str) (u:Value):Prop:=
 (env.kindOf x=some .local∧m x=some u)∨((env.kindOf x=some .cell∨env.kindOf x=some .free)∧∃c,env.cells.lookup x=some c∧h.IsCell c (some u))
structure Cx.Ok (X:Cx):Prop where
 mod:Mod X.K X.mg X.base
 kind:X.env.scope.kind=.function
 glob:X.env.globals=mainGlobals
 blt:X.env.builtins=builtinsNs
 above:X.s₀.heap.objs.size≤X.env.locals
 inj:∀x y c,X.env.cells.lookup x=some c→X.env.cells.lookup y=some c→x=y
 has:∀x,(X.env.kindOf x=some .cell∨X.env.kindOf x=some .free)→∃c,X.env.cells.lookup x=some c
 cab:∀x c,X.fn x=true→X.env.cells.lookup x=some c→X.s₀.heap.objs.size≤c
 hd:X.calm=true→X.A.handled=none
 frames:X.A.frames=some X.stack
 stk:X.stack=X.outer∨(X.stack=X.env::X.outer∧X.env.frame=some X.env.locals)
 exf:∀b∈X.ex,b≠X.env.locals∧∀x c,X.env.cells.lookup x=some c→c≠b
 bs:∀b o,X.base.get? b=some o→X.s₀.heap.get? b=some o∧X.H₀ b=none
 bsz:X.base.objs.size≤X.s₀.heap.objs.size
 noex:∀b o,X.base.get? b=some o→b∉X.ex
 exfs:∀b∈X.ex,b∉X.fs
 lz:X.s₀.heap.FunFrames X.base X.outer
 frf:∀b∈X.fs,X.H₀ b=none
structure Inv (X:Cx) (pins:List (Addr×Obj)) (σ:List (Option V)) (H:Hp) (s:Shared):Prop where
 ok:X.Ok
 os:s.os=X.s₀.os
 bare:AllBare s.gens
 base:Un X.fs X.ex X.H₀ H X.s₀.heap s.heap
 loc:∃m,s.heap.Ns X.env.locals m∧∀(i:Nat) (x:Str) (v:V),X.N[i]?=some x→σ[i]?=some (some v)→Vis X.env.scope x→∃u,RelV v u∧Look X.env s.heap m x u
 cell:∀x c,X.env.cells.lookup x=some c→∃v,s.heap.IsCell c v
 free:H X.env.locals=none
 freeC:∀x c,X.env.cells.lookup x=some c→H c=none
 pin:∀p∈X.pn++pins,s.heap.get? p.1=some p.2∧H p.1=none∧p.1≠X.env.locals∧p.1∉X.fs∧∀v,p.2.data≠.cell v
 hok:HOk X.prog X.w H s.heap
 len:σ.length=X.N.length
section
variable {X:Cx} {pins:List (Addr×Obj)} {σ:List (Option V)} {H H':Hp} {s:Shared} {h':Heap}
theorem Cx.Ok.nofr (ok:X.Ok) {b:Addr} {o:Obj} (e:X.base.get? b=some o):b∉X.fs:=λhb=>by
 have:=(ok.lz.mem hb).1;rw[e] at this;cases this
theorem Inv.bs (I:Inv X pins σ H s):∀b o,X.base.get? b=some o→s.heap.get? b=some o∧H b=none:=λb o e=>
 ⟨I.base.keep b o (I.ok.bs b o e).1 (I.ok.bs b o e).2 (I.ok.nofr e) (I.ok.noex b o e),I.base.free b o (I.ok.bs b o e).1 (I.ok.bs b o e).2 (I.ok.noex b o e)⟩
theorem Inv.bk (I:Inv X pins σ H s):∀b o,X.base.get? b=some o→s.heap.get? b=some o:=λb o e=>(I.bs b o e).1
theorem Inv.mod (I:Inv X pins σ H s):Mod X.K X.mg X.base:=I.ok.mod
theorem Inv.kIn (I:Inv X pins σ H s):X.K.In s.heap:=I.ok.mod.kin.keeps I.bk
theorem Inv.lt (I:Inv X pins σ H s):X.env.locals < s.heap.objs.size:=let ⟨_,hn,_⟩:=I.loc;hn.lt
theorem Inv.sz (I:Inv X pins σ H s):X.s₀.heap.objs.size≤s.heap.objs.size:=aak I.ok.above (adb I.lt)
theorem Inv.nofs (I:Inv X pins σ H s) {a:Addr} (h:s.heap.objs.size≤a):a∉X.fs:=λhb=>by
 obtain ⟨_,o,ho,_⟩:=I.ok.lz.mem hb;exact absurd (aah (Heap.lt_size ho) (aak I.sz h)) (abp _)
theorem Inv.cne (I:Inv X pins σ H s):∀x c,X.env.cells.lookup x=some c→c≠X.env.locals:=λx c e z=>by
 obtain ⟨v,o,ho,hd⟩:=I.cell x c e;obtain ⟨m,⟨o',es,ep,ho',hd',_⟩,_⟩:=I.loc;rw[z,ho'] at ho;cases ho;rw[hd'] at hd;cases hd
theorem Inv.lz (I:Inv X pins σ H s):s.heap.FunFrames X.base X.outer:=by
 have all:∀(l:List Env),(∀b∈frs l,b∈X.fs)→X.s₀.heap.FunFrames X.base l→s.heap.FunFrames X.base l:=by
  intro l;induction l with
  | nil=>intro _ _;trivial
  | cons env r ih=>
   intro hs hl;obtain ⟨hk,⟨L,o,hf,hn,ho,hd⟩,hr⟩:=hl;have hL:L∈X.fs:=hs L (by unfold frs;rw[ac3,hf];exact aa6);obtain ⟨sl,e⟩:=I.base.slot L o ho (I.ok.frf L hL) hL λz=>I.ok.exfs L z hL;exact ⟨hk,⟨L,_,hf,hn,e,hd⟩,ih (λb hb=>hs b (by unfold frs;rw[ac3,hf];exact aab _ hb)) hr⟩
 exact all X.outer (λ_ hb=>hb) I.ok.lz
theorem Inv.stack (I:Inv X pins σ H s):s.heap.FunFrames X.base X.stack:=by
 rcases I.ok.stk with e | ⟨e,hf⟩
 ·rw[e];exact I.lz
 ·rw[e];obtain ⟨m,hn,_⟩:=I.loc;refine .cons (by rw[I.ok.kind];decide) hf hn ?_ I.lz;exact Heap.get?_none_of_le (aak I.ok.bsz I.ok.above)
theorem Inv.Bl (I:Inv X pins σ H s):∀b∈frs X.stack,b∈X.env.locals::X.fs:=λb hb=>by
 rcases I.ok.stk with e | ⟨e,hf⟩
 ·rw[e] at hb;exact aab _ hb
 ·rw[e] at hb;unfold frs at hb;rw[ac3,hf] at hb;exact hb
theorem Inv.yf (I:Inv X pins σ H s):∀b∈frs X.stack,H b=none:=λb hb=>by
 rcases List.mem_cons.mp (I.Bl b hb) with e | hb
 ·rw[e];exact I.free
 ·obtain ⟨_,o,ho,_⟩:=I.ok.lz.mem hb;exact I.base.free b o ho (I.ok.frf b hb) λz=>I.ok.exfs b z hb
theorem Inv.step {g':Array GenState} {t':Nat} {d':Drawn} {ch:List Addr} (I:Inv X pins σ H s)
  (hch:∀b∈ch,(b∈X.ex∨X.s₀.heap.objs.size≤b)∧b≠X.env.locals∧(∀x c,X.env.cells.lookup x=some c→c≠b)∧∀p∈X.pn++pins,p.1≠b)
  (keep:∀b o,b≠X.env.locals→b∉X.fs→b∉ch→s.heap.get? b=some o→H b=none→h'.get? b=some o)
  (slot:∀b o,b≠X.env.locals→b∈X.fs→b∉ch→s.heap.get? b=some o→H b=none→∃sl,h'.get? b=some { o with slots:=sl }) (free:∀b o,b∉ch→s.heap.get? b=some o→H b=none→H' b=none)
  (there:∀b o,b∉ch→s.heap.get? b=some o→∃o',h'.get? b=some o')
  (tups:∀b xs,H b=some (.tup xs)→H' b=some (.tup xs)) (frzs:∀b o u,H b=some (.frz o u)→H' b=some (.frz o u)) (tbls:∀b ps,H b=some (.tbl ps)→∃more,H' b=some (.tbl (ps++more)))
  (ns:∀m,s.heap.Ns X.env.locals m→h'.Ns X.env.locals m) (hok:HOk X.prog X.w H' h') (hg:AllBare g'):
  Inv X pins σ H' { s with heap:=h',gens:=g',drawn:=d',toks:=t' }:=by
 have neL:∀b o,X.s₀.heap.get? b=some o→b≠X.env.locals:=λb o e=>aas (aah (Heap.lt_size e) I.ok.above);have neC:∀b o,X.s₀.heap.get? b=some o→b∉X.ex→b∉ch:=λb o e hx hb=>by
  rcases (hch b hb).1 with z | z
  ·exact hx z
  ·exact absurd (aah (Heap.lt_size e) z) (abp _)
 have cellK:∀x c,X.env.cells.lookup x=some c→∀v,s.heap.IsCell c v→h'.IsCell c v:=λx c e v ⟨o,ho,hd⟩=>by
  have nch:c∉ch:=λz=>(hch c z).2.2.1 x c e rfl;by_cases hc:c∈X.fs
  ·obtain ⟨sl,q⟩:=slot c o (I.cne x c e) hc nch ho (I.freeC x c e);exact ⟨_,q,hd⟩
  ·exact ⟨o,keep c o (I.cne x c e) hc nch ho (I.freeC x c e),hd⟩
 refine ⟨I.ok,I.os,hg,⟨λb o e n hb hx=>?_,λb o e n hb hx=>?_,λb o e n hx=>?_,λb o e hx=>?_,λb xs e=>tups b xs (I.base.tups b xs e),λb o xs e=>frzs b o xs (I.base.frzs b o xs e),λb ps e=>?_⟩,?_,λx c e=>?_,?_,λx c e=>?_,λp hp=>?_,hok,I.len⟩
 ·exact keep b o (neL b o e) hb (neC b o e hx) (I.base.keep b o e n hb hx) (I.base.free b o e n hx)
 ·obtain ⟨sl,e1⟩:=I.base.slot b o e n hb hx;obtain ⟨sl',e2⟩:=slot b _ (neL b o e) hb (neC b o e hx) e1 (I.base.free b o e n hx);exact ⟨sl',e2⟩
 ·obtain ⟨o',e1⟩:=I.base.there b o e hx;exact free b o' (neC b o e hx) e1 (I.base.free b o e n hx)
 ·obtain ⟨o',e1⟩:=I.base.there b o e hx;exact there b o' (neC b o e hx) e1
 ·obtain ⟨m1,e1⟩:=I.base.tbls b ps e;obtain ⟨m2,e2⟩:=tbls b _ e1;exact ⟨m1++m2,by rw[e2,ady]⟩
 ·obtain ⟨m,hn,hl⟩:=I.loc;refine ⟨m,ns m hn,λi x v e1 e2 e3=>?_⟩;obtain ⟨u,r,l⟩:=hl i x v e1 e2 e3;refine ⟨u,r,?_⟩;rcases l with l | ⟨k,c,e,z⟩
  ·exact .inl l
  ·exact .inr ⟨k,c,e,cellK x c e _ z⟩
 ·obtain ⟨v,z⟩:=I.cell x c e;exact ⟨v,cellK x c e v z⟩
 ·obtain ⟨m,⟨o,_,_,ho,_⟩,_⟩:=I.loc;exact free _ o (λz=>(hch _ z).2.1 rfl) ho I.free
 ·obtain ⟨v,o,ho,hd⟩:=I.cell x c e;exact free c o (λz=>(hch c z).2.2.1 x c e rfl) ho (I.freeC x c e)
 ·obtain ⟨e,n,ne,nf,d⟩:=I.pin p hp;have nch:p.1∉ch:=λz=>(hch p.1 z).2.2.2 p hp rfl;exact ⟨keep p.1 p.2 ne nf nch e n,free p.1 p.2 nch e n,ne,nf,d⟩
theorem Inv.un {t':Nat} (I:Inv X pins σ H s) (u:Un X.fs [] H H' s.heap h') (hok:HOk X.prog X.w H' h'):Inv X pins σ H' { s with heap:=h',toks:=t' }:=by
 obtain ⟨m,⟨o,es,ep,ho,r⟩,_⟩:=id I.loc;obtain ⟨sl,hL⟩:=u.any ho I.free (by simp);exact I.step (g':=s.gens) (d':=s.drawn) (ch:=[]) (λ_ z=>nomatch z) (λb o _ hb _ e n=>u.keep b o e n hb (by simp)) (λb o _ hb _ e n=>u.slot b o e n hb (by simp)) (λb o _ e n=>u.free b o e n (by simp)) (λb o _ e=>u.there b o e (by simp)) u.tups u.frzs u.tbls (λm' hm=>by
  obtain ⟨o',es',ep',ho',r'⟩:=hm;rw[ho] at ho';cases ho';exact ⟨_,es',ep',hL,r'⟩) hok I.bare
theorem Inv.call {g':Array GenState} {t':Nat} {d':Drawn} {ch:List Addr} (I:Inv X pins σ H s) (u:Un (frs X.stack) ch H H' s.heap h') (hok:HOk X.prog X.w H' h') (hg:AllBare g')
  (hch:∀b∈ch,(b∈X.ex∨X.s₀.heap.objs.size≤b)∧b≠X.env.locals∧(∀x c,X.env.cells.lookup x=some c→c≠b)∧∀p∈X.pn++pins,p.1≠b):
  Inv X pins σ H' { s with heap:=h',gens:=g',drawn:=d',toks:=t' }:=by
 obtain ⟨m,⟨o,es,ep,ho,r⟩,_⟩:=id I.loc;obtain ⟨sl,hL⟩:=u.any ho I.free λz=>(hch _ z).2.1 rfl;exact I.step (ch:=ch) hch (λb o hL hb hc e n=>u.keep b o e n (λz=>(List.mem_cons.mp (I.Bl b z)).elim hL hb) hc) (λb o _ _ hc e n=>u.any e n hc) (λb o hc e n=>u.free b o e n hc) (λb o hc e=>u.there b o e hc) u.tups u.frzs u.tbls (λm' hm=>by
  obtain ⟨o',es',ep',ho',r'⟩:=hm;rw[ho] at ho';cases ho';exact ⟨_,es',ep',hL,r'⟩) hok hg
theorem Inv.turned {t':Nat} {it:Addr} (I:Inv X pins σ H s) (k:∀b o,b≠it→s.heap.get? b=some o→h'.get? b=some o) (hn:H it=none) (hL:it≠X.env.locals)
  (h1:it∈X.ex∨X.s₀.heap.objs.size≤it) (h2:∀x c,X.env.cells.lookup x=some c→c≠it) (h3:∀p∈X.pn++pins,p.1≠it):Inv X pins σ H { s with heap:=h',toks:=t' }:=by
 have nit:∀b u,H b=some u→b≠it:=λb u e z=>by rw[z,hn] at e;cases e
 refine I.step (g':=s.gens) (d':=s.drawn) (ch:=[it]) (λb hb=>?_) (λb o _ _ hc e _=>k b o (λz=>hc (by simp[z])) e) (λb o _ _ hc e _=>⟨o.slots,k b o (λz=>hc (by simp[z])) e⟩) (λ_ _ _ _ n=>n)
  (λb o hc e=>⟨o,k b o (λz=>hc (by simp[z])) e⟩) (λ_ _ e=>e) (λ_ _ _ e=>e) (λb ps e=>⟨#[],by rw[e];simp⟩) (λm hm=>?_) (λb u e=>?_) I.bare
 ·have e:b=it:=by simpa using hb
  subst e;exact ⟨h1,hL,h2,h3⟩
 ·obtain ⟨o,es,ep,ho,r⟩:=hm;exact ⟨o,es,ep,k _ o (Ne.symm hL) ho,r⟩
 ·refine (I.hok b u e).rq (λc v hc q=>k c v ?_ q) (λ_ q=>q) λ_ _ q=>q;rcases hc with z | z
  ·rw[z];exact nit b u e
  ·exact nit c _ z
theorem Inv.tok (I:Inv X pins σ H s) (t:Nat):Inv X pins σ H { s with toks:=t }:=I.un (h':=s.heap) (t':=t) Un.refl I.hok
theorem Inv.kept {t':Nat} (I:Inv X pins σ H s) (k:∀b u,s.heap.get? b=some u→h'.get? b=some u):Inv X pins σ H { s with heap:=h',toks:=t' }:=I.un (Un.kept k) (I.hok.kept k)
theorem Inv.laid {a:Addr} {o:HO} {t':Nat} (I:Inv X pins σ H s) (k:∀b u,s.heap.get? b=some u→h'.get? b=some u) (hp:s.heap.objs.size≤a) (new:b4 X.prog X.w (upd H a o) h' a o):
  Inv X pins σ (upd H a o) { s with heap:=h',toks:=t' }:=I.un (Un.laid k hp (I.hok.fresh hp)) (I.hok.laid k hp new)
theorem Inv.write {x e:Addr} {o:HO} {t':Nat} (I:Inv X pins σ H s) (mu:Mut (H x)) (he:e=x∨H e=some (.own x)) (k:∀b u,b≠e→s.heap.get? b=some u→h'.get? b=some u) (heo:∃u,h'.get? e=some u)
  (new:b4 X.prog X.w (upd H x o) h' x o):Inv X pins σ (upd H x o) { s with heap:=h',toks:=t' }:=I.un (Un.write mu he k heo) (I.hok.write mu he k heo new)
theorem Inv.weak {σ':List (Option V)} (I:Inv X pins σ H s) (hl:σ'.length=σ.length) (w:∀(i:Nat) v,σ'[i]?=some (some v)→σ[i]?=some (some v)):Inv X pins σ' H s:=
 ⟨I.ok,I.os,I.bare,I.base,let ⟨m,hn,hl'⟩:=I.loc;⟨m,hn,λi x v e1 e2 e3=>hl' i x v e1 (w i v e2) e3⟩,I.cell,I.free,I.freeC,I.pin,I.hok,hl.trans I.len⟩
theorem Inv.Dl {pins':List (Addr×Obj)} (I:Inv X pins σ H s) (h:∀p∈pins',s.heap.get? p.1=some p.2∧H p.1=none∧p.1≠X.env.locals∧p.1∉X.fs∧∀v,p.2.data≠.cell v):Inv X pins' σ H s:=
 ⟨I.ok,I.os,I.bare,I.base,I.loc,I.cell,I.free,I.freeC,λp hp=>(List.mem_append.mp hp).elim (λz=>I.pin p (abl _ z)) (h p),I.hok,I.len⟩
theorem qp {N:List Str} (hN:N.Nodup) {i j:Nat} {x:Str} (a:N[i]?=some x) (b:N[j]?=some x):i=j:=by
 obtain ⟨h1,e1⟩:=List.getElem?_eq_some_iff.mp a;obtain ⟨h2,e2⟩:=List.getElem?_eq_some_iff.mp b;exact (ae9 hN).mp (e1.trans e2.symm)
theorem sx {M:Model} {A:Around} {E:Value→Shared→Prop} {i:Nat} {x:Str} {v:V} {u:Value} {Q:Unit→Shared→Prop} (I:Inv X pins σ H s) (hN:X.N.Nodup) (hi:X.N[i]?=some x) (hx:Loc X.env.scope x) (r:RelV v u)
  (h:∀s',Inv X pins (σ.set i (some v)) H s'→(∃a,Heap.SameBut a s.heap s'.heap∧(a=X.env.locals∨X.env.cells.lookup x=some a))→Q () s') (hf:X.fn x=true∨X.env.scope.names.lookup x=some .local:=by first | exact .inl rfl | exact .inr rfl | assumption):wpAny M A (storeName X.env x u) Q E s:=by
 obtain ⟨m,hn,hl⟩:=id I.loc;have hcls:(X.env.scope.kind==.class||(X.env.scope.kind==.module&&X.env.locals !=X.env.globals))=false:=by rw[I.ok.kind];rfl
 have hiσ:i < σ.length:=by rw[I.len];exact (List.getElem?_eq_some_iff.mp hi).1
 have cne:=I.cne;have tracked:∀{a:Addr} {h':Heap},(∃o,s.heap.get? a=some o∧H a=none)→Heap.SameBut a s.heap h'→HOk X.prog X.w H h':=λ{a h'} ha hs b ob e=>by
  obtain ⟨_,_,hfree⟩:=ha;refine (I.hok b ob e).rq (λc w' hc q=>(hs.2 c ?_).trans q) (λ_ q=>q) λ_ _ q=>q;rintro rfl;rcases hc with rfl | hc
  ·rw[hfree] at e;cases e
  ·rw[hfree] at hc;cases hc
 rcases hx with hk | hk
 ·refine wpAny_storeName_local hk hn (λh' hn' hs=>?_) hcls;obtain ⟨oL,_,_,hoL,_⟩:=id hn;refine h _ ⟨I.ok,I.os,I.bare,⟨λb o e n hb hx=>?_,λb o e n hb hx=>?_,I.base.free,λb o e hx=>?_,I.base.tups,I.base.frzs,I.base.tbls⟩,⟨_,hn',λj y v' e1 e2 e3=>?_⟩,λy c e=>?_,I.free,I.freeC,λp hp=>?_,tracked ⟨oL,hoL,I.free⟩ hs,by simpa using I.len⟩ ⟨_,hs,.inl rfl⟩
  ·exact (hs.2 b (aas (aah (Heap.lt_size e) I.ok.above))).trans (I.base.keep b o e n hb hx)
  ·obtain ⟨sl,e1⟩:=I.base.slot b o e n hb hx;exact ⟨sl,(hs.2 b (aas (aah (Heap.lt_size e) I.ok.above))).trans e1⟩
  ·obtain ⟨o',e1⟩:=I.base.there b o e hx;exact ⟨o',(hs.2 b (aas (aah (Heap.lt_size e) I.ok.above))).trans e1⟩
  ·by_cases hj:j=i
   ·subst hj;rw[hi] at e1;cases e1;rw[aco hiσ] at e2;cases e2
    exact ⟨u,r,.inl ⟨hk,by simp⟩⟩
   ·rw[acv (Ne.symm hj)] at e2;obtain ⟨u',r',q⟩:=hl j y v' e1 e2 e3;refine ⟨u',r',?_⟩;rcases q with ⟨k,e⟩ | ⟨k,c,e,z⟩
    ·refine .inl ⟨k,?_⟩;have:y≠x:=λe=>hj (qp hN e1 (e ▸ hi));simp[this,e]
    ·exact .inr ⟨k,c,e,z.sameBut hs (cne y c e)⟩
  ·obtain ⟨w',z⟩:=I.cell y c e;exact ⟨w',z.sameBut hs (cne y c e)⟩
  ·obtain ⟨e,n,ne,nf,d⟩:=I.pin p hp;exact ⟨(hs.2 p.1 ne).trans e,n,ne,nf,d⟩
 ·have hfn:X.fn x=true:=by
   rcases hf with z | z
   ·exact z
   ·rw[z] at hk;cases hk
  obtain ⟨c,hc⟩:=I.ok.has x (.inl hk);obtain ⟨w',z⟩:=I.cell x c hc;refine wpAny_storeName_cell I.ok.kind hk hc z (λh' hc' hs=>?_);obtain ⟨oc,hoc,hocd⟩:=id z;refine h { s with heap:=h' } ⟨I.ok,I.os,I.bare,⟨λb o e n hb hx=>?_,λb o e n hb hx=>?_,I.base.free,λb o e hx=>?_,I.base.tups,I.base.frzs,I.base.tbls⟩,⟨m,hn.sameBut hs (Ne.symm (cne x c hc)),λj y v' e1 e2 e3=>?_⟩,λy c' e=>?_,I.free,I.freeC,λp hp=>?_,tracked ⟨oc,hoc,I.freeC x c hc⟩ hs,by simpa using I.len⟩ ⟨c,hs,.inr hc⟩
  ·exact (hs.2 b (aas (aah (Heap.lt_size e) (I.ok.cab x c hfn hc)))).trans (I.base.keep b o e n hb hx)
  ·obtain ⟨sl,e1⟩:=I.base.slot b o e n hb hx;exact ⟨sl,(hs.2 b (aas (aah (Heap.lt_size e) (I.ok.cab x c hfn hc)))).trans e1⟩
  ·obtain ⟨o',e1⟩:=I.base.there b o e hx;exact ⟨o',(hs.2 b (aas (aah (Heap.lt_size e) (I.ok.cab x c hfn hc)))).trans e1⟩
  ·by_cases hj:j=i
   ·subst hj;rw[hi] at e1;cases e1;rw[aco hiσ] at e2;cases e2
    exact ⟨u,r,.inr ⟨.inl hk,c,hc,hc'⟩⟩
   ·rw[acv (Ne.symm hj)] at e2;obtain ⟨u',r',q⟩:=hl j y v' e1 e2 e3;refine ⟨u',r',?_⟩;rcases q with q | ⟨k,c',e,z'⟩
    ·exact .inl q
    ·refine .inr ⟨k,c',e,z'.sameBut hs ?_⟩;rintro rfl;exact hj (qp hN e1 (I.ok.inj _ _ _ e hc ▸ hi))
  ·by_cases hcc:c'=c
   ·subst hcc;exact ⟨_,hc'⟩
   ·obtain ⟨w2,z2⟩:=I.cell y c' e;exact ⟨w2,z2.sameBut hs hcc⟩
  ·obtain ⟨e,n,ne,nf,d⟩:=I.pin p hp;refine ⟨(hs.2 p.1 ?_).trans e,n,ne,nf,d⟩;intro q;rw[q,hoc] at e;have q':oc=p.2:=aac e;exact d w' (by rw[←q'];exact hocd)
theorem qb {M:Model} {A:Around} {E:Value→Shared→Prop} {i:Nat} {x:Str} {v:V} {u:Value} {Q:Unit→Shared→Prop} (I:Inv X pins σ H s) (hN:X.N.Nodup) (hi:X.N[i]?=some x) (hx:Loc X.env.scope x) (r:RelV v u)
  (h:∀s',Inv X pins (σ.set i (some v)) H s'→Q () s') (hf:X.fn x=true∨X.env.scope.names.lookup x=some .local:=by first | exact .inl rfl | exact .inr rfl | assumption):wpAny M A (storeName X.env x u) Q E s:=
 sx I hN hi hx r (λs' I' _=>h s' I') hf
theorem Inv.Kd {s':Shared} {ch:List Addr} (I:Inv X pins σ H s) (ho:s'.os=s.os) (u:Un (frs X.stack) ch H H' s.heap s'.heap) (hok:HOk X.prog X.w H' s'.heap) (hg:AllBare s'.gens)
  (hch:∀b∈ch,(b∈X.ex∨X.s₀.heap.objs.size≤b)∧b≠X.env.locals∧(∀x c,X.env.cells.lookup x=some c→c≠b)∧∀p∈X.pn++pins,p.1≠b):Inv X pins σ H' s':=by
 obtain ⟨h',g',d',t',o'⟩:=s';have e:o'=s.os:=ho;subst e;exact I.call (g':=g') (t':=t') (d':=d') u hok hg hch
end
abbrev XK:=Value→Option Addr→Hp→Prop
abbrev St:=List (Option V)
abbrev VK:=V→Hp→Prop
abbrev TE:=St→Hp→VK→Prop
abbrev TT:=St→Hp→(Bool→Hp→Prop)→Prop
abbrev TA:=St→Hp→(List V→Hp→Prop)→Prop
structure Ends where
 nx:St→Hp→Prop
 rt:VK
 bk:St→Hp→Prop:=λ_ _=>False
 ct:St→Hp→Prop:=λ_ _=>False
abbrev TS:=Ends→St→Hp→Prop
def EP (X:Cx) (pins:List (Addr×Obj)) (σ:St) (Q:VK) (u:Value) (s':Shared):Prop:=∃v H',Inv X pins σ H' s'∧RelV v u∧Q v H'
def TP (X:Cx) (pins:List (Addr×Obj)) (σ:St) (Q:Bool→Hp→Prop) (b:Bool) (s':Shared):Prop:=∃H',Inv X pins σ H' s'∧Q b H'
def AP (X:Cx) (pins:List (Addr×Obj)) (σ:St) (Q:List V→Hp→Prop) (us:List Value) (s':Shared):Prop:=∃vs H',Inv X pins σ H' s'∧Vals vs us∧Q vs H'
def SP (X:Cx) (pins:List (Addr×Obj)) (D:Ends) (f:Flow) (s':Shared):Prop:=
 match f with
 | .next=>∃σ' H',Inv X pins σ' H' s'∧D.nx σ' H'
 | .brk=>∃σ' H',Inv X pins σ' H' s'∧D.bk σ' H'
 | .cont=>∃σ' H',Inv X pins σ' H' s'∧D.ct σ' H'
 | .ret u=>∃v σ' H',Inv X pins σ' H' s'∧RelV v u∧D.rt v H'
def PE (X:Cx) (e:Expr) (t:TE):Prop:=
 ∀(pins:List (Addr×Obj)) (s:Shared) (σ:St) (H:Hp) (Q:VK),Inv X pins σ H s→t σ H Q→wpAny (model X.prog X.w) X.A (eval e X.env) (EP X pins σ Q) X.xe s
def PT (X:Cx) (e:Expr) (t:TT):Prop:=
 ∀(pins:List (Addr×Obj)) (s:Shared) (σ:St) (H:Hp) (Q:Bool→Hp→Prop),Inv X pins σ H s→t σ H Q→wpAny (model X.prog X.w) X.A (isTrue e X.env (eval e X.env)) (TP X pins σ Q) X.xe s
def PW (X:Cx) (e:Expr) (t:TT):Prop:=
 ∀(whole:Sem Value) (pins:List (Addr×Obj)) (s:Shared) (σ:St) (H:Hp) (Q:Bool→Hp→Prop),Inv X pins σ H s→t σ H Q→wpAny (model X.prog X.w) X.A (isTrue e X.env whole) (TP X pins σ Q) X.xe s
theorem PW.pt {X:Cx} {e:Expr} {t:TT} (h:PW X e t):PT X e t:=h _
def PA (X:Cx) (es:List Expr) (t:TA):Prop:=
 ∀(pos:Pos) (pins:List (Addr×Obj)) (s:Shared) (σ:St) (H:Hp) (Q:List V→Hp→Prop),Inv X pins σ H s→t σ H Q→wpAny (model X.prog X.w) X.A (spliced (backTo pos (starEach es X.env))) (AP X pins σ Q) X.xe s
def PS (X:Cx) (st:Stmt) (t:TS):Prop:=
 ∀(pins:List (Addr×Obj)) (s:Shared) (σ:St) (H:Hp) (D:Ends),Inv X pins σ H s→t D σ H→wpAny (model X.prog X.w) X.A (exec st X.env) (SP X pins D) X.xe s
def PSs (X:Cx) (st:List Stmt) (t:TS):Prop:=
 ∀(pins:List (Addr×Obj)) (s:Shared) (σ:St) (H:Hp) (D:Ends),Inv X pins σ H s→t D σ H→wpAny (model X.prog X.w) X.A (execs st X.env) (SP X pins D) X.xe s
theorem thn {α:Type} {t:Sem α} {Q Q':α→Shared→Prop} {M:Model} {A:Around} {E:Value→Shared→Prop} {s:Shared} (h:wpAny M A t Q E s) (hQ:∀a s,Q a s→Q' a s):wpAny M A t Q' E s:=wpAny_mono h hQ λ_ _ x=>x
section
variable {X:Cx}
def tVar (i:Nat):TE:=λσ H Q=>∃v,σ[i]?=some (some v)∧Q v H
def tC (v:V):TE:=λ_ H Q=>Q v H
theorem pe_var {i:Nat} {x:Str} {pos:Pos} (hN:X.N[i]?=some x) (hv:Vis X.env.scope x) (hd:(x==("__debug__":Str))=false:=by decide) (hcd:(x==("__classdict__":Str))=false:=by decide):PE X (.Name x pos) (tVar i):=by
 intro pins s σ H Q I h;obtain ⟨v,e,h⟩:=h;obtain ⟨m,hn,hl⟩:=I.loc;obtain ⟨u,r,l⟩:=hl i x v hN e hv;have fin:EP X pins σ Q u s:=⟨v,H,I,r,h⟩;rcases l with ⟨hk,hm⟩ | ⟨hk,c,hc,hcell⟩
 ·exact wpAny_Name (wpAny_loadName_local I.ok.kind hk hn hm fin) hd
 ·rcases hk with hk | hk
  ·exact wpAny_Name (wpAny_loadName_cell I.ok.kind hk hc hcell fin) hd
  ·exact wpAny_Name (wpAny_loadName_free I.ok.kind hk hc hcell fin hcd) hd
theorem Hi {i j pos}:PE X (.Constant (.int i) j pos) (tC (.int i)):=λ_ _ _ H _ I h=>wpAny_Constant_int ⟨.int i,H,I.tok _,⟨_,rfl⟩,h⟩
theorem pe_bl {b j pos}:PE X (.Constant (.bool b) j pos) (tC (.bl b)):=λ_ _ _ H _ I h=>Constant_bool ⟨.bl b,H,I,rfl,h⟩
theorem pe_non {j pos}:PE X (.Constant .none j pos) (tC .non):=λ_ _ _ H _ I h=>Constant_none ⟨.non,H,I,rfl,h⟩
theorem J7 {x j pos}:PE X (.Constant (.str x) j pos) (tC (.str x)):=λ_ _ _ H _ I h=>Calls.Constant_str ⟨.str x,H,I.tok _,⟨_,rfl⟩,h⟩
def Gl (X:Cx) (x:Str):Prop:=X.env.kindOf x=some .globalImplicit
theorem js {E:Value→Shared→Prop} {pins:List (Addr×Obj)} {s:Shared} {σ:St} {H:Hp} {x:Str} {u:Value} {pos:Pos} {Q:Value→Shared→Prop} (I:Inv X pins σ H s) (hg:Gl X x) (hm:X.mg x=some u) (h:Q u s)
  (hd:(x==("__debug__":Str))=false:=by decide):wpAny (model X.prog X.w) X.A (eval (.Name x pos) X.env) Q E s:=
 Calls.Name_function_global I.ok.kind hg (Calls.loadGlobal_global (by rw[I.ok.glob];exact I.mod.glob.keeps I.bk) hm h) hd
theorem kx {E:Value→Shared→Prop} {pins:List (Addr×Obj)} {s:Shared} {σ:St} {H:Hp} {x:Str} {u:Value} {pos:Pos} {Q:Value→Shared→Prop} (I:Inv X pins σ H s) (hg:Gl X x) (hm:X.mg x=none) (hv:bootBuiltins x=some u) (h:Q u s)
  (hn:x≠"__name__":=by decide) (hd:(x==("__debug__":Str))=false:=by decide):wpAny (model X.prog X.w) X.A (eval (.Name x pos) X.env) Q E s:=by
 obtain ⟨mb,h1,h2⟩:=I.mod.blt;exact Calls.Name_function_global I.ok.kind hg (Calls.loadGlobal_builtin (by rw[I.ok.glob];exact I.mod.glob.keeps I.bk) hm (by rw[I.ok.blt];exact h1.keeps I.bk) ((h2 x hn).trans hv) h) hd
theorem wu {x:Str} {v:V} {u:Value} {pos:Pos} (hg:Gl X x) (hm:X.mg x=some u) (r:RelV v u) (hd:(x==("__debug__":Str))=false:=by decide):PE X (.Name x pos) (tC v):=
 λ_ _ _ H _ I h=>js I hg hm ⟨v,H,I,r,h⟩ hd
theorem L3 {x:Str} {v:V} {u:Value} {pos:Pos} (hg:Gl X x) (hm:X.mg x=none) (hv:bootBuiltins x=some u) (r:RelV v u) (hn:x≠"__name__":=by decide) (hd:(x==("__debug__":Str))=false:=by decide):PE X (.Name x pos) (tC v):=
 λ_ _ _ H _ I h=>kx I hg hm hv ⟨v,H,I,r,h⟩ hn hd
variable {a b:Expr} {ta tb:TE} {pos:Pos}
def PC (X:Cx) (op:CmpOp) (a b:Expr) (t:TE):Prop:=
 ∀(pins:List (Addr×Obj)) (s:Shared) (σ:St) (H:Hp) (Q:VK),Inv X pins σ H s→t σ H Q→
  wpAny (model X.prog X.w) X.A (eval a X.env) (λv s₁=>wpAny (model X.prog X.w) X.A (eval b X.env) (λu s₂=>wpAny (model X.prog X.w) X.A (compareOp op v u) (EP X pins σ Q) X.xe s₂) X.xe s₁) X.xe s
def tB (t:TE):TT:=λσ H Q=>t σ H λx H1=>∃c,x=.bl c∧Q c H1
theorem pt_cmp {op:CmpOp} {t:TE} (h:PC X op a b t) (h1:behindInMarks op b=false:=by first | exact nobehind _ (by decide) (by decide) | rfl):PT X (.Compare a [op] [b] pos) (tB t):=by
 intro pins s σ H Q I hw;refine wpAny_isTrue_Compare1 (thn (h pins s σ H _ I hw) λv s1 h1=>thn h1 λu s2 h2=>thn h2 λc s3 ⟨x,H1,I1,r1,q1⟩=>?_) h1;obtain ⟨d,rfl,q⟩:=q1;cases r1
 exact wpAny_truthy_bool ⟨H1,I1,q⟩
theorem pt_val {e:Expr} {t:TE} (h:PE X e t) (he:∀whole,isTrue e X.env whole=(do let v ←whole;standAt e.pos;holding [v] (truthy v)):=by intro _;rfl):PT X e (tB t):=by
 intro pins s σ H Q I hw;refine isTrue_plain (thn (h pins s σ H _ I hw) λv s1 ⟨x,H1,I1,r1,q1⟩=>?_) (he _);obtain ⟨d,rfl,q⟩:=q1;cases r1
 exact wpAny_truthy_bool ⟨H1,I1,q⟩
variable {tA tB':TT} {rest:List Expr}
def tAnd (t u:TT):TT:=λσ H Q=>t σ H λc H1=>if c=true then u σ H1 Q else Q false H1
def tOr (t u:TT):TT:=λσ H Q=>t σ H λc H1=>if c=true then Q true H1 else u σ H1 Q
def tNot (t:TT):TT:=λσ H Q=>t σ H λc H1=>Q (!c) H1
theorem K2 (ha:PT X a tA):PW X (.BoolOp .And [a] pos) tA:=by
 intro wh pins s σ H Q I h;refine isTrue_and (thn (ha pins s σ H Q I h) λc s1 e=>?_);cases c with
 | true=>exact isTrue_and_nil e
 | false=>exact e
theorem pw_or1 (ha:PT X a tA):PW X (.BoolOp .Or [a] pos) tA:=by
 intro wh pins s σ H Q I h;refine isTrue_or (thn (ha pins s σ H Q I h) λc s1 e=>?_);cases c with
 | false=>exact isTrue_or_nil e
 | true=>exact e
theorem pw_and (ha:PT X a tA) (hb:PW X (.BoolOp .And (b::rest) pos) tB'):PW X (.BoolOp .And (a::b::rest) pos) (tAnd tA tB'):=by
 intro wh pins s σ H Q I h;refine isTrue_and (thn (ha pins s σ H _ I h) λc s1 ⟨H1,I1,q1⟩=>?_);cases c with
 | true=>exact hb wh pins s1 σ H1 Q I1 q1
 | false=>exact ⟨H1,I1,q1⟩
theorem pw_or (ha:PT X a tA) (hb:PW X (.BoolOp .Or (b::rest) pos) tB'):PW X (.BoolOp .Or (a::b::rest) pos) (tOr tA tB'):=by
 intro wh pins s σ H Q I h;refine isTrue_or (thn (ha pins s σ H _ I h) λc s1 ⟨H1,I1,q1⟩=>?_);cases c with
 | true=>exact ⟨H1,I1,q1⟩
 | false=>exact hb wh pins s1 σ H1 Q I1 q1
theorem pt_not (ha:PT X a tA):PT X (.UnaryOp .Not a pos) (tNot tA):=by
 intro pins s σ H Q I h;exact isTrue_not (ha pins s σ H (λc H1=>Q (!c) H1) I h)
def tAndV (ta tb:TE):TE:=λσ H Q=>ta σ H λx H1=>∃c,x=.bl c∧if c=true then tb σ H1 Q else Q (.bl false) H1
def tOrV (ta tb:TE):TE:=λσ H Q=>ta σ H λx H1=>∃c,x=.bl c∧if c=true then Q (.bl true) H1 else tb σ H1 Q
def tNotV (ta:TE):TE:=λσ H Q=>ta σ H λx H1=>∃c,x=.bl c∧Q (.bl (!c)) H1
theorem pe_one {op} {t:TE} (h:PE X a t):PE X (.BoolOp op [a] pos) t:=λpins s σ H Q I hw=>BoolOp_one (h pins s σ H Q I hw)
theorem pe_and (ha:PE X a ta) (hb:PE X (.BoolOp .And (b::rest) pos) tb):PE X (.BoolOp .And (a::b::rest) pos) (tAndV ta tb):=by
 intro pins s σ H Q I h;refine BoolOp_and (thn (ha pins s σ H _ I h) λv s1 ⟨x,H1,I1,r1,q1⟩=>?_);obtain ⟨c,rfl,q1⟩:=q1;cases r1
 refine wpAny_truthy_bool ?_;cases c with
 | true=>exact hb pins s1 σ H1 Q I1 q1
 | false=>exact ⟨.bl false,H1,I1,rfl,q1⟩
theorem pe_or (ha:PE X a ta) (hb:PE X (.BoolOp .Or (b::rest) pos) tb):PE X (.BoolOp .Or (a::b::rest) pos) (tOrV ta tb):=by
 intro pins s σ H Q I h;refine BoolOp_or (thn (ha pins s σ H _ I h) λv s1 ⟨x,H1,I1,r1,q1⟩=>?_);obtain ⟨c,rfl,q1⟩:=q1;cases r1
 refine wpAny_truthy_bool ?_;cases c with
 | false=>exact hb pins s1 σ H1 Q I1 q1
 | true=>exact ⟨.bl true,H1,I1,rfl,q1⟩
def tIf (t:TT) (ta tb:TE):TE:=λσ H Q=>t σ H λc H1=>if c=true then ta σ H1 Q else tb σ H1 Q
theorem Jb {c:Expr} (hc:PT X c tA) (ha:PE X a ta) (hb:PE X b tb):PE X (.IfExp c a b pos) (tIf tA ta tb):=by
 intro pins s σ H Q I h;refine wpAny_IfExp (thn (hc pins s σ H _ I h) λd s1 ⟨H1,I1,q1⟩=>?_);cases d with
 | true=>exact ha pins s1 σ H1 Q I1 q1
 | false=>exact hb pins s1 σ H1 Q I1 q1
end
def SqL (K:PySem.W.Frag) (H:Hp) (a:Addr) (xs:List V):Prop:=
 Rd H a (.lst xs)∨
  ∃(o:Obj) (its:Array Value) (n:Nat),K.lookup a=some o∧o.cls=.type "list"∧o.dict=none∧o.data=.seq its n∧its.size≤sizeLine∧Vals xs its.toList
def SqT (K:PySem.W.Frag) (H:Hp) (a:Addr) (xs:List V):Prop:=
 Rd H a (.tup xs)∨
  ∃(o:Obj) (its:Array Value) (n:Nat),K.lookup a=some o∧o.cls=.type "tuple"∧o.data=.seq its n∧its.size≤sizeLine∧Vals xs its.toList
noncomputable def absV:Value→Option V
 | .none=>some .non
 | .bool b=>some (.bl b)
 | .int i _=>some (.int i)
 | .str x _=>some (.str x)
 | .bytes b _=>some (.byt b)
 | .float b _=>some (.flt b)
 | .ref a=>some (.ref a)
 | .type n=>some (.ty n)
 | _=>none
theorem RelV.abs {x:V} {u:Value} (r:RelV x u):absV u=some x:=by
 cases x with
 | non=>cases r;rfl
 | bl _=>cases r;rfl
 | int _=>obtain ⟨t,rfl⟩:=r;rfl
 | str _=>obtain ⟨t,rfl⟩:=r;rfl
 | byt _=>obtain ⟨t,rfl⟩:=r;rfl
 | flt _=>obtain ⟨t,rfl⟩:=r;rfl
 | ref _=>cases r;rfl
 | ty _=>cases r;rfl
theorem RelV.inj {x y:V} {u:Value} (r:RelV x u) (q:RelV y u):x=y:=aac (r.abs.symm.trans q.abs)
theorem Vals.inj:∀{xs ys:List V} {us:List Value},Vals xs us→Vals ys us→xs=ys
 | _,_,_,.nil,.nil=>rfl
 | _,_,_,.cons r t,.cons r' t'=>by rw[r.inj r',Vals.inj t t']
section
variable {X:Cx} {pins:List (Addr×Obj)} {σ:St} {H:Hp} {s:Shared} {a:Addr} {xs ys:List V}
theorem SqL.of {K:PySem.W.Frag} (h:H a=some (.lst xs)):SqL K H a xs:=.inl (.inl h)
theorem SqT.of {K:PySem.W.Frag} (h:H a=some (.tup xs)):SqT K H a xs:=.inl (.inl h)
theorem Inv.list (I:Inv X pins σ H s) (h:SqL X.K H a xs):∃its:List Value,Vals xs its∧PlainL s.heap a its.toArray∧xs.length≤sizeLine:=by
 rcases h with h | ⟨o,its,n,hk,hc,hd,hs,hz,r⟩
 ·obtain ⟨z,its,n,r,e⟩:=h.ok I.hok;exact ⟨its,r,⟨_,n,e,rfl,rfl,rfl⟩,z⟩
 ·refine ⟨its.toList,r,⟨o,n,I.kIn a o hk,hc,hd,by simpa using hs⟩,?_⟩;have e:=r.length;simp only[abn] at e;omega
theorem Inv.tuple (I:Inv X pins σ H s) (h:SqT X.K H a xs):∃its:List Value,Vals xs its∧IsTup s.heap a its.toArray∧xs.length≤sizeLine:=by
 rcases h with h | ⟨o,its,n,hk,hc,hs,hz,r⟩
 ·obtain ⟨z,its,r,p⟩:=h.ok I.hok;exact ⟨its,r,p.tup,z⟩
 ·refine ⟨its.toList,r,⟨o,I.kIn a o hk,hc,n,by simpa using hs⟩,?_⟩;have e:=r.length;simp only[abn] at e;omega
theorem Inv.qj (I:Inv X pins σ H s) (h:SqL X.K H a xs) (h':SqL X.K H a ys):xs=ys:=by
 obtain ⟨its,r,⟨o,n,e,_,_,d⟩,_⟩:=I.list h;obtain ⟨its',r',⟨o',n',e',_,_,d'⟩,_⟩:=I.list h';rw[e] at e';cases e';rw[d] at d';injection d' with d1 _
 have:its=its':=by simpa using congrArg Array.toList d1
 subst this;exact r.inj r'
theorem Inv.Fb (I:Inv X pins σ H s) (h:SqT X.K H a xs) (h':SqT X.K H a ys):xs=ys:=by
 obtain ⟨its,r,⟨o,e,_,n,d⟩,_⟩:=I.tuple h;obtain ⟨its',r',⟨o',e',_,n',d'⟩,_⟩:=I.tuple h';rw[e] at e';cases e';rw[d] at d';injection d' with d1 _
 have:its=its':=by simpa using congrArg Array.toList d1
 subst this;exact r.inj r'
end
noncomputable abbrev Cx.mh (X:Cx) (E:Value→Shared→Prop):Cx:={ X with xe:=E }
noncomputable abbrev Cx.nox (X:Cx):Cx:=X.mh λ_ _=>False
theorem Cx.Ok.mh {X:Cx} (ok:X.Ok) (E:Value→Shared→Prop):(X.mh E).Ok:=
 ⟨ok.mod,ok.kind,ok.glob,ok.blt,ok.above,ok.inj,ok.has,ok.cab,ok.hd,ok.frames,ok.stk,ok.exf,ok.bs,ok.bsz,ok.noex,ok.exfs,ok.lz,ok.frf⟩
theorem Cx.Ok.cc {X:Cx} {E:Value→Shared→Prop} (ok:(X.mh E).Ok):X.Ok:=
 ⟨ok.mod,ok.kind,ok.glob,ok.blt,ok.above,ok.inj,ok.has,ok.cab,ok.hd,ok.frames,ok.stk,ok.exf,ok.bs,ok.bsz,ok.noex,ok.exfs,ok.lz,ok.frf⟩
section
variable {X:Cx} {pins:List (Addr×Obj)} {σ:St} {H:Hp} {s:Shared} {E:Value→Shared→Prop}
theorem Inv.mh (I:Inv X pins σ H s) (E:Value→Shared→Prop):Inv (X.mh E) pins σ H s:=⟨I.ok.mh E,I.os,I.bare,I.base,I.loc,I.cell,I.free,I.freeC,I.pin,I.hok,I.len⟩
theorem Inv.cc (I:Inv (X.mh E) pins σ H s):Inv X pins σ H s:=⟨I.ok.cc,I.os,I.bare,I.base,I.loc,I.cell,I.free,I.freeC,I.pin,I.hok,I.len⟩
theorem SP.cc {D:Ends} {f:Flow} {s':Shared} (h:SP (X.mh E) pins D f s'):SP X pins D f s':=by
 cases f with
 | next=>obtain ⟨σ',H',I,q⟩:=h;exact ⟨σ',H',I.cc,q⟩
 | brk=>obtain ⟨σ',H',I,q⟩:=h;exact ⟨σ',H',I.cc,q⟩
 | cont=>obtain ⟨σ',H',I,q⟩:=h;exact ⟨σ',H',I.cc,q⟩
 | ret u=>obtain ⟨v,σ',H',I,r,q⟩:=h;exact ⟨v,σ',H',I.cc,r,q⟩
theorem PSs.nox {st:List Stmt} {t:TS} (h:PSs X.nox st t):PSs X st t:=λpins s σ H D I hw=>
 wpAny_mono (h pins s σ H D (I.mh _) hw) (λ_ _ q=>q.cc) λ_ _ z=>False.elim z
end
section
variable {X:Cx} {st:Stmt} {rest:List Stmt} {t u:TS} {e:Expr} {te:TE} {pos:Pos}
def tNext:TS:=λD σ H=>D.nx σ H
def tSeq (t u:TS):TS:=λD σ H=>t { D with nx:=u D } σ H
theorem K7:PSs X [] tNext:=λ_ _ σ H _ I h=>wpAny_execs_nil ⟨σ,H,I,h⟩
theorem zz (h1:PS X st t) (h2:PSs X rest u):PSs X (st::rest) (tSeq t u):=by
 intro pins s σ H D I h;refine wpAny_execs_cons (thn (h1 pins s σ H { D with nx:=u D } I h) λf s1 q=>?_);cases f with
 | next=>
  obtain ⟨σ',H',I',q⟩:=q;exact h2 pins s1 σ' H' D I' q
 | ret v=>exact q
 | brk=>exact q
 | cont=>exact q
theorem E5 (h1:PS X st t):PSs X [st] t:=by
 intro pins s σ H D I h;refine wpAny_execs_cons (thn (h1 pins s σ H D I h) λf s1 q=>?_);cases f with
 | next=>exact wpAny_execs_nil q
 | ret v=>exact q
 | brk=>exact q
 | cont=>exact q
theorem Inv.quiet {pins:List (Addr×Obj)} {σ:St} {H:Hp} {s:Shared} (I:Inv X pins σ H s):interactive X.env=false:=by simp[interactive,I.ok.kind]
def tDrop (te:TE):TS:=λD σ H=>te σ H λ_ H1=>D.nx σ H1
theorem Ek (he:PE X e te) (hs:swapsWith e none pos.line X.env=pure false:=by rfl):PS X (.Expr e pos) (tDrop te):=by
 intro pins s σ H D I h;exact wpAny_Expr_any (thn (he pins s σ H _ I h) λv s1 ⟨x,H1,I1,r1,q1⟩=>⟨σ,H1,I1,q1⟩) I.quiet hs
def tRet (te:TE):TS:=λD σ H=>te σ H D.rt
theorem ps_ret (he:PE X e te):PS X (.Return (some e) pos) (tRet te):=by
 intro pins s σ H D I h;exact wpAny_Return_some (thn (he pins s σ H _ I h) λv s1 ⟨x,H1,I1,r1,q1⟩=>⟨x,σ,H1,I1,r1,q1⟩)
def tRetN:TS:=λD _ H=>D.rt .non H
def tIfS (c:TT) (t u:TS):TS:=λD σ H=>c σ H λb H1=>if b=true then t D σ H1 else u D σ H1
theorem ps_if {c:Expr} {a b:List Stmt} {tc:TT} (hc:PT X c tc) (ha:PSs X a t) (hb:PSs X b u):PS X (.If c a b pos) (tIfS tc t u):=by
 intro pins s σ H D I h;refine wpAny_If (thn (hc pins s σ H _ I h) λd s1 ⟨H1,I1,q1⟩=>?_);cases d with
 | true=>exact ha pins s1 σ H1 D I1 q1
 | false=>exact hb pins s1 σ H1 D I1 q1
end
abbrev TG:=V→St→Hp→(St→Hp→Prop)→Prop
abbrev TGs:=List V→St→Hp→(St→Hp→Prop)→Prop
def PG (X:Cx) (target:Expr) (t:TG):Prop:=
 ∀(pins:List (Addr×Obj)) (s:Shared) (σ:St) (H:Hp) (v:V) (u:Value) (Q:St→Hp→Prop),Inv X pins σ H s→RelV v u→t v σ H Q→
  wpAny (model X.prog X.w) X.A (assign target X.env u) (λ_ s'=>∃σ' H',Inv X pins σ' H' s'∧Q σ' H') X.xe s
def PGs (X:Cx) (ts:List Expr) (t:TGs):Prop:=
 ∀(pins:List (Addr×Obj)) (s:Shared) (σ:St) (H:Hp) (vs:List V) (us:List Value) (Q:St→Hp→Prop),Inv X pins σ H s→Vals vs us→t vs σ H Q→
  wpAny (model X.prog X.w) X.A (assignInOrder ((assignEach ts X.env).map (·.2)) us) (λ_ s'=>∃σ' H',Inv X pins σ' H' s'∧Q σ' H') X.xe s
abbrev TSet:=V→V→V→Hp→(Hp→Prop)→Prop
def PSet (X:Cx) (t:TSet):Prop:=
 ∀(pins:List (Addr×Obj)) (s:Shared) (σ:St) (H:Hp) (o i v:V) (ov iv u:Value) (Q:Hp→Prop),Inv X pins σ H s→RelV o ov→RelV i iv→RelV v u→t o i v H Q→
  wpAny (model X.prog X.w) X.A (setItem ov iv u) (λ_ s'=>∃H',Inv X pins σ H' s'∧Q H') X.xe s
section
variable {X:Cx} {pos:Pos}
def iy (i:Nat):TG:=λv σ H Q=>Q (σ.set i (some v)) H
theorem Ei {i:Nat} {x:Str} (hN:X.N.Nodup) (hi:X.N[i]?=some x) (hx:Loc X.env.scope x) (hf:X.fn x=true∨X.env.scope.names.lookup x=some .local:=by first | exact .inl rfl | exact .inr rfl | assumption):PG X (.Name x pos) (iy i):=by
 intro pins s σ H v u Q I r h;exact wpAny_assign_Name (qb I hN hi hx r (λs' I'=>⟨_,H,I',h⟩) hf)
def gNil:TGs:=λvs σ H Q=>vs=[]∧Q σ H
def Hc (t:TG) (u:TGs):TGs:=λvs σ H Q=>∃v r,vs=v::r∧t v σ H λσ' H'=>u r σ' H' Q
theorem jo:PGs X [] gNil:=by
 intro pins s σ H vs us Q I r h;obtain ⟨e,h⟩:=h;subst e;cases r
 exact assignInOrder_nil ⟨σ,H,I,h⟩
theorem Jk {e:Expr} {es:List Expr} {t:TG} {u:TGs} (h1:PG X e t) (h2:PGs X es u)
  (hs:(assignEach (e::es) X.env).map (·.2)=assign e X.env::(assignEach es X.env).map (·.2):=by rfl):PGs X (e::es) (Hc t u):=by
 intro pins s σ H vs us Q I r h;obtain ⟨v,vr,e1,h⟩:=h;subst e1;cases r with
 | cons r rr=>
  rw[hs];refine assignInOrder_cons (thn (h1 pins s σ H _ _ _ I r h) λ_ s1 ⟨σ1,H1,I1,q1⟩=>?_);exact h2 pins s1 σ1 H1 _ _ Q I1 rr q1
def gTup (K:PySem.W.Frag) (n:Nat) (t:TGs):TG:=λv σ H Q=>∃a xs,v=.ref a∧SqT K H a xs∧xs.length=n∧t xs σ H Q
theorem pg_tup {es:List Expr} {k:Nat} {t:TGs} {n:Nat} (hc:X.calm=true) (h:PGs X es t)
  (hn:(assignEach es X.env).length=n:=by rfl) (hst:(assignEach es X.env).findIdx? (·.1)=none:=by rfl):PG X (.Tuple es k pos) (gTup X.K n t):=by
 intro pins s σ H v u Q I r hw;obtain ⟨a,xs,e1,hq,hl,hw⟩:=hw;subst e1;cases r
 obtain ⟨its,rv,ht,hz⟩:=I.tuple hq;refine assign_Tuple_tuple (I.ok.hd hc) ht (by simp[hn,←hl,rv.length]) hst λh' hx=>?_;have I1:Inv X pins σ H { s with heap:=h' }:=I.kept (t':=s.toks) λb o e=>hx b o (aas (Heap.lt_size e)) e;exact h pins _ σ H xs _ Q I1 (by simpa using rv) hw
def gSub (to ti:TE) (t:TSet):TG:=λv σ H Q=>to σ H λo H1=>ti σ H1 λi H2=>t o i v H2 λH3=>Q σ H3
theorem pg_sub {o i:Expr} {to ti:TE} {t:TSet} (ho:PE X o to) (hi:PE X i ti) (hs:PSet X t)
  (ha:∀v,assign (.Subscript o i pos) X.env v=(do
   let ov ←holding [v] (eval o X.env)
   let iv ←holding [v,ov] (eval i X.env)
   standAt pos
   holding [v,ov,iv] (setItem ov iv v)
   release [v,ov,iv] []):=by intro _;rfl):PG X (.Subscript o i pos) (gSub to ti t):=by
 intro pins s σ H v u Q I r h;rw[ha];refine wpAny_bind (wpAny_holding (thn (ho pins s σ H _ I h) λov s1 ⟨x,H1,I1,r1,q1⟩=>?_));refine wpAny_bind (wpAny_holding (thn (hi pins s1 σ H1 _ I1 q1) λiv s2 ⟨y,H2,I2,r2,q2⟩=>?_));refine wpAny_bind (wpAny_standAt (wpAny_bind (wpAny_holding (thn (hs pins s2 σ H2 x y v ov iv u _ I2 r1 r2 r q2) λ_ s3 ⟨H3,I3,q3⟩=>?_))));exact wpAny_release ⟨σ,H3,I3,q3⟩
def tAsg (te:TE) (g:TG):TS:=λD σ H=>te σ H λx H1=>g x σ H1 D.nx
theorem ps_asg {tg e:Expr} {te:TE} {g:TG} (he:PE X e te) (hg:PG X tg g) (hs:swapsWithSole [tg] e pos.line X.env=pure false:=by rfl) (hw:swappedStores [tg] e X.env=pure none:=by rfl)
  (h1:(assignEach [tg] X.env).map (·.2)=[assign tg X.env]:=by rfl):PS X (.Assign [tg] e pos) (tAsg te g):=by
 intro pins s σ H D I h;refine wpAny_Assign_stores (thn (he pins s σ H _ I h) λv s1 ⟨x,H1,I1,r1,q1⟩=>?_) hs hw;rw[h1];exact thn (hg pins s1 σ H1 x v _ I1 r1 q1) λ_ s2 q=>q
theorem ps_set {i:Nat} {x:Str} {e:Expr} {te:TE} {pos':Pos} (hN:X.N.Nodup) (hi:X.N[i]?=some x) (hx:Loc X.env.scope x) (he:PE X e te) (hs:swapsWith e (some (.Name x pos')) pos.line X.env=pure false:=by rfl) (hf:X.fn x=true∨X.env.scope.names.lookup x=some .local:=by first | exact .inl rfl | exact .inr rfl | assumption):
  PS X (.Assign [.Name x pos'] e pos) (tAsg te (iy i)):=by
 intro pins s σ H D I h;refine wpAny_Assign_Name (thn (he pins s σ H _ I h) λv s1 ⟨y,H1,I1,r1,q1⟩=>?_) hs;exact qb I1 hN hi hx r1 (λs2 I2=>⟨_,H1,I2,q1⟩) hf
end
structure It where
 go:Nat→Hp→Prop
 yld:Nat→Hp→V→Hp→Prop
 stop:Nat→Hp→Prop
def m9 (X:Cx) (pins:List (Addr×Obj)) (H:Hp) (b:Addr):Prop:=
 H b=none∧b≠X.env.locals∧b∉X.fs∧(b∈X.ex∨X.s₀.heap.objs.size≤b)∧(∀x c,X.env.cells.lookup x=some c→c≠b)∧∀p∈X.pn++pins,p.1≠b
theorem Inv.si {X:Cx} {pins:List (Addr×Obj)} {σ:St} {H H':Hp} {s:Shared} {b:Addr} (I:Inv X pins σ H s) (hb:s.heap.objs.size≤b) (hn:H' b=none):m9 X pins H' b:=by
 refine ⟨hn,aby (aah I.lt hb),I.nofs hb,.inr (aak I.sz hb),λx c e z=>?_,λp hp z=>?_⟩
 ·obtain ⟨v,q⟩:=I.cell x c e;exact absurd (aah q.lt (by rw[z];exact hb)) (abp _)
 ·exact absurd (aah (Heap.lt_size (I.pin p hp).1) (by rw[z];exact hb)) (abp _)
structure Turn (P:Program) (w:World) (K:PySem.W.Frag) (tg:Expr) (J:It) (fp:List Addr) (it:Addr) (tn:Nat→Heap→Prop):Prop where
 mem:it∈fp
 obj:∀i h,tn i h→∀b∈fp,∃o,h.get? b=some o∧∀v,o.data≠.cell v
 keep:∀i h h',tn i h→(∀b∈fp,∀o,h.get? b=some o→h'.get? b=some o)→tn i h'
 item:∀(X:Cx),X.prog=P→X.w=w→X.K=K→X.calm=true→∀(i:Nat) (pins:List (Addr×Obj)) (s:Shared) (σ:St) (H:Hp) (E:Value→Shared→Prop),Inv X pins σ H s→(∀b∈fp,m9 X pins H b)→tn i s.heap→J.go i H→
  wpAny (model P w) X.A (pyNext (.ref it)) (λr s1=>∃u,r=some u∧
   wpAny (model P w) X.A (letOwnedTupleGo tg (.ref it) u) (λ_ s2=>∃x H',Inv X pins σ H' s2∧RelV x u∧J.yld i H x H'∧tn (i+1) s2.heap∧∀b∈fp,H' b=none) E s1) E s
 done:∀(X:Cx),X.prog=P→X.w=w→X.K=K→X.calm=true→∀(i:Nat) (pins:List (Addr×Obj)) (s:Shared) (σ:St) (H:Hp) (E:Value→Shared→Prop),Inv X pins σ H s→(∀b∈fp,m9 X pins H b)→tn i s.heap→J.stop i H→
  wpAny (model P w) X.A (pyNext (.ref it)) (λr s1=>r=none∧Inv X pins σ H s1) E s
 self:∀(A:Around) (i:Nat) (s:Shared) (Q:Value→Shared→Prop) (E:Value→Shared→Prop),tn i s.heap→Q (.ref it) s→wpAny (model P w) A (pyIter (.ref it)) Q E s
abbrev TI:=St→Hp→(It→Hp→Prop)→Prop
def PIE (X:Cx) (pins:List (Addr×Obj)) (σ:St) (tg:Expr) (R:It→Hp→Prop) (itv:Value) (s2:Shared):Prop:=
 ∃(it:Addr) (fp:List Addr) (tn:Nat→Heap→Prop) (J:It) (H':Hp),itv=.ref it∧Inv X pins σ H' s2∧Turn X.prog X.w X.K tg J fp it tn∧tn 0 s2.heap∧(∀b∈fp,m9 X pins H' b)∧R J H'
def PI (X:Cx) (tg iter:Expr) (wi:TI):Prop:=
 ∀(pins:List (Addr×Obj)) (s:Shared) (σ:St) (H:Hp) (R:It→Hp→Prop),Inv X pins σ H s→wi σ H R→
  wpAny (model X.prog X.w) X.A (eval iter X.env) (λv s1=>wpAny (model X.prog X.w) X.A (pyIter v) (PIE X pins σ tg R) X.xe s1) X.xe s
theorem Dp {M:Model} {A:Around} {E:Value→Shared→Prop} {s:Shared} {tg:Expr} {it:Addr} {u:Value} {o:Obj} {n:String} {vs:Array Value} {Q:Unit→Shared→Prop} (ho:s.heap.get? it=some o) (hc:o.cls=.type n) (hd:o.data=.fields vs)
    (hn:["enumerate","zip","dict_itemiterator","dict_reverseitemiterator","odict_iterator","itertools.zip_longest","itertools.pairwise"].contains n=false) (hQ:Q () s):wpAny M A (letOwnedTupleGo tg (.ref it) u) Q E s:=by
  unfold letOwnedTupleGo;cases tg <;> first
    | exact wpAny_pure hQ
    | (cases u <;> first
        | exact wpAny_pure hQ
        | (refine wpAny_bind (wpAny_load ho ?_)
           rw[hc,hd];show wpAny M A (if (["enumerate","zip","dict_itemiterator","dict_reverseitemiterator","odict_iterator","itertools.zip_longest","itertools.pairwise"].contains n&&vs[0]?==some (rawInt _))=true then _ else _) Q E s
           rw[if_neg (by intro h;rw[hn,aa7] at h;cases h)];exact wpAny_pure hQ))
noncomputable def Itl (K:PySem.W.Frag) (a:Addr):It:=
 ⟨λi H=>∃xs x,SqL K H a xs∧xs[i]?=some x,λi H x H'=>H'=H∧∀xs,SqL K H a xs→xs[i]?=some x,λi H=>∃xs,SqL K H a xs∧xs.length≤i⟩
noncomputable def Itt (K:PySem.W.Frag) (a:Addr):It:=
 ⟨λi H=>∃xs x,SqT K H a xs∧xs[i]?=some x,λi H x H'=>H'=H∧∀xs,SqT K H a xs→xs[i]?=some x,λi H=>∃xs,SqT K H a xs∧xs.length≤i⟩
noncomputable def Itr (lo:Int) (n:Nat):It:=⟨λi _=>i < n,λi H x H'=>H'=H∧x=.int (lo+i),λi _=>n≤i⟩
theorem Fg {P:Program} {w:World} {K:PySem.W.Frag} {tg:Expr} (a it:Addr):Turn P w K tg (Itl K a) [it] it (λi h=>h.IsListIter it a i) where
 mem:=by simp
 obj:=λi h st b hb=>by
  have e:b=it:=by simpa using hb
  subst e;obtain ⟨o,e,c,d⟩:=st;exact ⟨o,e,λv z=>by rw[d] at z;cases z⟩
 keep:=λi h h' st k=>st.at λo e=>k it (by simp) o e
 item:=by
  intro X hP hw hK hc i pins s σ H E I hf st hg;subst hP hw hK;obtain ⟨xs,x,hq,hx⟩:=hg;obtain ⟨its,rv,p,hz⟩:=I.list hq;obtain ⟨u,hu,ru⟩:=rv.get hx;obtain ⟨f0,f1,f2,f3,f4,f5⟩:=hf it (by simp);refine wpAny_pyNext_list_item st p.isList (x:=u) (by simpa using hu) λh' st' sb=>?_;have I1:Inv X pins σ H { s with heap:=h' }:=I.turned (t':=s.toks) (λb o hb e=>(sb.2 b hb).trans e) f0 f1 f3 f4 f5;obtain ⟨o,e,c,d⟩:=id st';exact ⟨u,rfl,Dp (s:={ s with heap:=h' }) e c d (by decide) ⟨x,H,I1,ru,⟨rfl,λys hy=>by rw[I.qj hy hq];exact hx⟩,st',λb hb=>(hf b hb).1⟩⟩
 done:=by
  intro X hP hw hK hc i pins s σ H E I hf st hg;subst hP hw hK;obtain ⟨xs,hq,hx⟩:=hg;obtain ⟨its,rv,p,hz⟩:=I.list hq;obtain ⟨f0,f1,f2,f3,f4,f5⟩:=hf it (by simp);have hl:=rv.length;exact wpAny_pyNext_list_end (I.ok.hd hc) st p.isList (by simp;omega) λh' eb=>⟨rfl,I.turned (t':=s.toks) (λb o hb e=>eb b o hb e) f0 f1 f3 f4 f5⟩
 self:=λ_ _ _ _ _ st h=>wpAny_pyIter_listiter st h
theorem Cf {P:Program} {w:World} {K:PySem.W.Frag} {tg:Expr} (a it:Addr):Turn P w K tg (Itt K a) [it] it (λi h=>h.IsTupleIter it a i) where
 mem:=by simp
 obj:=λi h st b hb=>by
  have e:b=it:=by simpa using hb
  subst e;obtain ⟨o,e,c,d⟩:=st;exact ⟨o,e,λv z=>by rw[d] at z;cases z⟩
 keep:=λi h h' st k=>st.at λo e=>k it (by simp) o e
 item:=by
  intro X hP hw hK hc i pins s σ H E I hf st hg;subst hP hw hK;obtain ⟨xs,x,hq,hx⟩:=hg;obtain ⟨its,rv,p,hz⟩:=I.tuple hq;obtain ⟨u,hu,ru⟩:=rv.get hx;obtain ⟨f0,f1,f2,f3,f4,f5⟩:=hf it (by simp);refine wpAny_pyNext_tuple_item st (show s.heap.IsTuple a its.toArray from p) (x:=u) (by simpa using hu) λh' st' sb=>?_;have I1:Inv X pins σ H { s with heap:=h' }:=I.turned (t':=s.toks) (λb o hb e=>(sb.2 b hb).trans e) f0 f1 f3 f4 f5;obtain ⟨o,e,c,d⟩:=id st';exact ⟨u,rfl,Dp (s:={ s with heap:=h' }) e c d (by decide) ⟨x,H,I1,ru,⟨rfl,λys hy=>by rw[I.Fb hy hq];exact hx⟩,st',λb hb=>(hf b hb).1⟩⟩
 done:=by
  intro X hP hw hK hc i pins s σ H E I hf st hg;subst hP hw hK;obtain ⟨xs,hq,hx⟩:=hg;obtain ⟨its,rv,p,hz⟩:=I.tuple hq;obtain ⟨f0,f1,f2,f3,f4,f5⟩:=hf it (by simp);have hl:=rv.length;exact wpAny_pyNext_tuple_end (I.ok.hd hc) st (show s.heap.IsTuple a its.toArray from p) (by simp;omega) λh' eb=>⟨rfl,I.turned (t':=s.toks) (λb o hb e=>eb b o hb e) f0 f1 f3 f4 f5⟩
 self:=λ_ _ _ _ _ st h=>wpAny_pyIter_tupleiter st h
theorem Bw {P:Program} {w:World} {K:PySem.W.Frag} {tg:Expr} (it:Addr) (lo:Int) (n:Nat):Turn P w K tg (Itr lo n) [it] it (λi h=>IsRangeIter h it (lo+(i:Nat)*1) ((n:Int) - (i:Nat)) 1) where
 mem:=by simp
 obj:=λi h st b hb=>by
  have e:b=it:=by simpa using hb
  subst e;exact ⟨_,st,λv z=>by
   have z':Data.fields _=Data.cell v:=z;cases z'⟩
 keep:=λi h h' st k=>k it (by simp) _ st
 item:=by
  intro X hP hw hK hc i pins s σ H E I hf st hg;subst hP hw hK;obtain ⟨f0,f1,f2,f3,f4,f5⟩:=hf it (by simp);have W:=Walks.range (prog:=X.prog) (w:=X.w) (I.ok.hd hc) it lo 1 n;refine W.item i s _ _ hg st λv h' tk hv st' kk=>?_;obtain ⟨t,rfl⟩:=hv;have I1:Inv X pins σ H { s with heap:=h',toks:=tk }:=I.turned (λb o hb e=>kk b o (by simpa using hb) e) f0 f1 f3 f4 f5;refine ⟨_,rfl,Dp (s:={ s with heap:=h',toks:=tk }) (n:="range_iterator") st' rfl rfl (by decide) ⟨.int (lo+i),H,I1,⟨t,?_⟩,⟨rfl,rfl⟩,st',λb hb=>(hf b hb).1⟩⟩;rw[Int.mul_one]
 done:=by
  intro X hP hw hK hc i pins s σ H E I hf st hg;subst hP hw hK;obtain ⟨f0,f1,f2,f3,f4,f5⟩:=hf it (by simp);exact wpAny_pyNext_range_end (I.ok.hd hc) st (by have:n≤i:=hg;omega) λh' eb=>⟨rfl,I.turned (t':=s.toks) (λb o hb e=>eb b o hb e) f0 f1 f3 f4 f5⟩
 self:=λ_ _ _ _ _ st h=>wpAny_pyIter_rangeiter st h
section
variable {X:Cx} {tg:Expr}
def iList (K:PySem.W.Frag) (tl:TE):TI:=λσ H R=>tl σ H λx H1=>∃a,x=.ref a∧(∃xs,SqL K H1 a xs)∧R (Itl K a) H1
def iTup (K:PySem.W.Frag) (tl:TE):TI:=λσ H R=>tl σ H λx H1=>∃a,x=.ref a∧(∃xs,SqT K H1 a xs)∧R (Itt K a) H1
theorem Lu {l:Expr} {tl:TE} (hl:PE X l tl):PI X tg l (iList X.K tl):=by
 intro pins s σ H R I h;refine thn (hl pins s σ H _ I h) λv s1 ⟨x,H1,I1,r1,q1⟩=>?_;obtain ⟨a,e,⟨xs,hq⟩,q⟩:=q1;subst e;cases r1
 obtain ⟨its,rv,p,hz⟩:=I1.list hq;refine wpAny_pyIter_list p.isList ?_;refine ⟨s1.heap.objs.size,[s1.heap.objs.size],_,_,H1,rfl,I1.kept (t':=s1.toks) λb o e=>Heap.get?_push_of_some _ e,Fg a _,⟨_,Heap.get?_push_size _ rfl,rfl,rfl⟩,λb hb=>?_,q⟩;have e:b=s1.heap.objs.size:=by simpa using hb
 subst e;exact I1.si (aa3 _) (I1.hok.fresh (aa3 _))
theorem Ce {l:Expr} {tl:TE} (hl:PE X l tl):PI X tg l (iTup X.K tl):=by
 intro pins s σ H R I h;refine thn (hl pins s σ H _ I h) λv s1 ⟨x,H1,I1,r1,q1⟩=>?_;obtain ⟨a,e,⟨xs,hq⟩,q⟩:=q1;subst e;cases r1
 obtain ⟨its,rv,p,hz⟩:=I1.tuple hq;refine wpAny_pyIter_tuple (show s1.heap.IsTuple a its.toArray from p) ?_;refine ⟨s1.heap.objs.size,[s1.heap.objs.size],_,_,H1,rfl,I1.kept (t':=s1.toks) λb o e=>Heap.get?_push_of_some _ e,Cf a _,⟨_,Heap.get?_push_size _ rfl,rfl,rfl⟩,λb hb=>?_,q⟩;have e:b=s1.heap.objs.size:=by simpa using hb
 subst e;exact I1.si (aa3 _) (I1.hok.fresh (aa3 _))
theorem Ae {pins:List (Addr×Obj)} {σ:St} {H:Hp} {s:Shared} {R:It→Hp→Prop} {E:Value→Shared→Prop} {lo hi:Int} {t u v:Tok} {tk:Nat} (I:Inv X pins σ H s) (h1:-(2 ^ 62)≤lo) (h2:lo < 2 ^ 62) (h3:-(2 ^ 62)≤hi) (h4:hi < 2 ^ 62)
  (q:R (Itr lo (hi - lo).toNat) H):wpAny (model X.prog X.w) X.A (pyIter (.ref s.heap.objs.size)) (PIE X pins σ tg R) E { s with heap:=s.heap.push { cls:=.type "range",data:=.fields #[.int lo t,.int hi u,.int 1 v] },toks:=tk }:=by
 refine wpAny_pyIter_range (IsRange.new ..) (small_one h1 h2 h3 h4) ?_;have I1:Inv X pins σ H { s with heap:=s.heap.push { cls:=.type "range",data:=.fields #[.int lo t,.int hi u,.int 1 v] },toks:=tk }:=I.kept λb o e=>Heap.get?_push_of_some _ e;refine ⟨(s.heap.push { cls:=.type "range",data:=.fields #[.int lo t,.int hi u,.int 1 v] }).objs.size,[(s.heap.push { cls:=.type "range",data:=.fields #[.int lo t,.int hi u,.int 1 v] }).objs.size],_,_,H,rfl,
  I1.kept (t':=tk) λb o e=>Heap.get?_push_of_some _ e,Bw _ lo (hi - lo).toNat,?_,λb hb=>?_,q⟩
 ·have e1:lo+((0:Nat):Int)*1=lo:=by simp
  have e2:(((hi - lo).toNat:Nat):Int) - ((0:Nat):Int)=Builtin.Range.rangeSize lo hi 1:=by rw[rangeSize_one];split <;> omega
  show IsRangeIter _ _ (lo+((0:Nat):Int)*1) ((((hi - lo).toNat:Nat):Int) - ((0:Nat):Int)) 1
  rw[e1,e2];exact Heap.get?_push_size _ rfl
 ·have e:b=(s.heap.push { cls:=.type "range",data:=.fields #[.int lo t,.int hi u,.int 1 v] }).objs.size:=by simpa using hb
  subst e;exact I1.si (aa3 _) (I1.hok.fresh (aa3 _))
def J5 (ta:TA):TI:=λσ H R=>ta σ H λvs H1=>∃j:Int,vs=[.int j]∧-(2 ^ 62)≤j∧j < 2 ^ 62∧R (Itr 0 j.toNat) H1
def iRng2 (ta:TA):TI:=λσ H R=>ta σ H λvs H1=>∃i j:Int,vs=[.int i,.int j]∧(-(2 ^ 62)≤i∧i < 2 ^ 62∧-(2 ^ 62)≤j∧j < 2 ^ 62)∧R (Itr i (j - i).toNat) H1
theorem Gi {a:Expr} {ta:TA} {p pos:Pos} (hg:Gl X "range") (hm:X.mg "range"=none) (ha:PA X [a] ta) (hs:starEach [a] X.env=[(false,eval a X.env)]:=by rfl):PI X tg (.Call (.Name "range" p) [a] [] pos) (J5 ta):=by
 intro pins s σ H R I h;refine Call_ (kx I hg hm boot_range (PyProof.Rows.callWith_type1 (thn (ha pos pins s σ H _ I h) λus s1 ⟨vs,H1,I1,r1,q1⟩=>?_) hs rfl));obtain ⟨j,e,q1,q2,q⟩:=q1;subst e;cases r1 with
 | cons r rr=>
  cases rr
  obtain ⟨t,rfl⟩:=r;exact call_range_1 (Ae I1 (by omega) (by omega) q1 q2 (by simpa using q))
theorem Gg {a b:Expr} {ta:TA} {p pos:Pos} (hg:Gl X "range") (hm:X.mg "range"=none) (ha:PA X [a,b] ta) (hs:starEach [a,b] X.env=[(false,eval a X.env),(false,eval b X.env)]:=by rfl) (hs2:starEach [b] X.env=[(false,eval b X.env)]:=by rfl):
  PI X tg (.Call (.Name "range" p) [a,b] [] pos) (iRng2 ta):=by
 intro pins s σ H R I h;refine Call_ (kx I hg hm boot_range (PyProof.Rows.callWith_type1 (thn (ha pos pins s σ H _ I h) λus s1 ⟨vs,H1,I1,r1,q1⟩=>?_) (by rw[hs,hs2]) (by rw[hs2];rfl)));obtain ⟨i,j,e,⟨q1,q2,q3,q4⟩,q⟩:=q1;subst e;cases r1 with
 | cons r rr=>
  cases rr with
  | cons r' rr=>
   cases rr
   obtain ⟨t,rfl⟩:=r;obtain ⟨t',rfl⟩:=r';exact call_range_2 (Ae I1 q1 q2 q3 q4 q)
def tFor (wi:TI) (g:TG) (tb:TS):TS:=λD σ H=>wi σ H λJ H1=>∃W:Nat→Nat→St→Hp→Prop,(∃m,W 0 m σ H1)∧∀i m σ H,W i m σ H→
 (J.stop i H∧D.nx σ H)∨(J.go i H∧∃N:St→Hp→Prop,(∀σ' H',N σ' H'→∃m',m' < m∧W (i+1) m' σ' H')∧∀x H',J.yld i H x H'→g x σ H' λσ2 H2=>tb { D with nx:=N,ct:=N,bk:=D.nx } σ2 H2)
noncomputable def oz (fp:List Addr) (h:Heap):List (Addr×Obj):=fp.filterMap λb=>(h.get? b).map λo=>(b,o)
theorem iw {fp:List Addr} {h:Heap} {b:Addr} {o:Obj} (hb:b∈fp) (e:h.get? b=some o):(b,o)∈oz fp h:=List.mem_filterMap.mpr ⟨b,hb,by rw[e];rfl⟩
theorem Fy {fp:List Addr} {h:Heap} {p:Addr×Obj} (hp:p∈oz fp h):p.1∈fp∧h.get? p.1=some p.2:=by
 obtain ⟨b,hb,e⟩:=List.mem_filterMap.mp hp;cases q:h.get? b with
 | none=>rw[q] at e;cases e
 | some o=>
  rw[q] at e;have e':(b,o)=p:=aac e;subst e';exact ⟨hb,q⟩
theorem Inv.pinned {pins:List (Addr×Obj)} {σ:St} {H:Hp} {s:Shared} {fp:List Addr} (I:Inv X pins σ H s) (hf:∀b∈fp,m9 X pins H b) (ho:∀b∈fp,∃o,s.heap.get? b=some o∧∀v,o.data≠.cell v):Inv X (pins++oz fp s.heap) σ H s:=
 I.Dl λp hp=>(List.mem_append.mp hp).elim (λz=>I.pin p (aai _ z)) λz=>by
  obtain ⟨hb,e⟩:=Fy z;obtain ⟨f0,f1,f2,_⟩:=hf p.1 hb;obtain ⟨o,e',d⟩:=ho p.1 hb;rw[e] at e';cases e';exact ⟨e,f0,f1,f2,d⟩
theorem Inv.lh {pins pl:List (Addr×Obj)} {σ:St} {H:Hp} {s:Shared} (I:Inv X (pins++pl) σ H s):Inv X pins σ H s:=I.Dl λp hp=>I.pin p (aai _ (abl _ hp))
theorem Kt {iter:Expr} {body:List Stmt} {wi:TI} {g:TG} {tb:TS} {pos:Pos} (hp:PassesOwn (model X.prog X.w) X.A X.env X.xe) (hc:X.calm=true) (hi:PI X tg iter wi) (hg:PG X tg g) (hb:PSs X body tb)
  (hs:∀x,foldedSetIterable iter X.env x=pure x:=by intro _;rfl):PS X (.For tg iter body [] pos) (tFor wi g tb):=by
 intro pins s σ H D I h;refine wpAny_For (thn (hi pins s σ H _ I h) λv s1 h1=>thn h1 λitv s2 h2=>?_) hs;obtain ⟨it,fp,tn,J,H2,e,I2,T,st2,f2,W,⟨m0,w0⟩,turn⟩:=h2;subst e;have stat:∀{H':Hp},(∀b∈fp,H' b=none)→∀b∈fp,m9 X pins H' b:=λhn b hb=>⟨hn b hb,(f2 b hb).2⟩;refine codeAny_forLoop_any (λn s'=>∃i σ' H',Inv X pins σ' H' s'∧tn i s'.heap∧(∀b∈fp,H' b=none)∧W i n σ' H') ?_ m0 ⟨0,σ,H2,I2,st2,λb hb=>(f2 b hb).1,w0⟩;rintro n s3 ⟨i,σ3,H3,I3,st3,fr3,w3⟩;rcases turn i n σ3 H3 w3 with ⟨stop,qn⟩ | ⟨go,N,hN,step⟩
 ·refine wpAny_passesOwn hp (thn (T.done X rfl rfl rfl hc i pins s3 σ3 H3 X.xe I3 (stat fr3) st3 stop) λr s4 ⟨hr,I4⟩=>?_);subst hr;exact wpAny_execs_nil ⟨σ3,H3,I4,qn⟩
 ·refine wpAny_passesOwn hp (thn (T.item X rfl rfl rfl hc i pins s3 σ3 H3 X.xe I3 (stat fr3) st3 go) λr s4 ⟨u,hr,h4⟩=>?_);subst hr;refine wpAny_passesOwn hp (thn h4 λ_ s5 ⟨x,H5,I5,r5,y5,st5,fr5⟩=>?_);have I5':=I5.pinned (stat fr5) (T.obj _ _ st5);refine wpAny_passesOwn hp (thn (hg _ s5 σ3 H5 x u _ I5' r5 (step x H5 y5)) λ_ s6 ⟨σ6,H6,I6,q6⟩=>?_);refine wpAny_passesOwn hp (thn (hb _ s6 σ6 H6 _ I6 q6) λf s7 q7=>?_);have again:∀{σ7:St} {H7:Hp},Inv X (pins++oz fp s5.heap) σ7 H7 s7→N σ7 H7→∃m,m < n∧∃i σ' H',Inv X pins σ' H' s7∧tn i s7.heap∧(∀b∈fp,H' b=none)∧W i m σ' H':=λ{σ7 H7} I7 n7=>by
   obtain ⟨m',hm,w7⟩:=hN σ7 H7 n7;refine ⟨m',hm,i+1,σ7,H7,I7.lh,T.keep _ _ _ st5 λb hb o e=>(I7.pin (b,o) (aai _ (aai _ (iw hb e)))).1,λb hb=>?_,w7⟩;obtain ⟨o,e,d⟩:=T.obj _ _ st5 b hb;exact (I7.pin (b,o) (aai _ (aai _ (iw hb e)))).2.1
  cases f with
  | next=>obtain ⟨σ7,H7,I7,n7⟩:=q7;exact again I7 n7
  | cont=>obtain ⟨σ7,H7,I7,n7⟩:=q7;exact again I7 n7
  | brk=>obtain ⟨σ7,H7,I7,q7⟩:=q7;exact ⟨σ7,H7,I7.lh,q7⟩
  | ret v=>obtain ⟨x7,σ7,H7,I7,r7,q7⟩:=q7;exact ⟨x7,σ7,H7,I7.lh,r7,q7⟩
end
theorem Jh {K:PySem.W.Frag} {a:Addr} {xs:List V} {g:TG} {tb:TS} {D:Ends} {σ:St} {H:Hp} (Pv:Nat→St→Hp→Prop) (h0:Pv 0 σ H) (hl:∀i σ H,i≤xs.length→Pv i σ H→SqL K H a xs)
  (hs:∀i x σ H,xs[i]?=some x→Pv i σ H→g x σ H λσ2 H2=>tb { D with nx:=Pv (i+1),ct:=Pv (i+1),bk:=D.nx } σ2 H2) (hd:∀σ H,Pv xs.length σ H→D.nx σ H):
  ∃W:Nat→Nat→St→Hp→Prop,(∃m,W 0 m σ H)∧∀i m σ H,W i m σ H→
   ((Itl K a).stop i H∧D.nx σ H)∨((Itl K a).go i H∧∃N:St→Hp→Prop,(∀σ' H',N σ' H'→∃m',m' < m∧W (i+1) m' σ' H')∧∀x H',(Itl K a).yld i H x H'→g x σ H' λσ2 H2=>tb { D with nx:=N,ct:=N,bk:=D.nx } σ2 H2):=by
 refine ⟨λi m σ H=>m=xs.length - i∧i≤xs.length∧Pv i σ H,⟨xs.length,by simp,ab7 _,h0⟩,?_⟩;rintro i m σ H ⟨rfl,hi,p⟩;have q:=hl i σ H hi p;by_cases hlt:i < xs.length
 ·refine .inr ⟨⟨xs,xs[i],q,by simp[hlt]⟩,Pv (i+1),λσ' H' p'=>⟨xs.length - (i+1),by omega,rfl,hlt,p'⟩,λx H' y=>?_⟩;obtain ⟨e,y⟩:=y;subst e;exact hs i x σ _ (y xs q) p
 ·have e:i=xs.length:=by omega
  subst e;exact .inl ⟨⟨xs,q,aa3 _⟩,hd σ H p⟩
theorem Gz {lo:Int} {n:Nat} {g:TG} {tb:TS} {D:Ends} {σ:St} {H:Hp} (Pv:Nat→St→Hp→Prop) (h0:Pv 0 σ H)
  (hs:∀i σ H,i < n→Pv i σ H→g (.int (lo+i)) σ H λσ2 H2=>tb { D with nx:=Pv (i+1),ct:=Pv (i+1),bk:=D.nx } σ2 H2) (hd:∀σ H,Pv n σ H→D.nx σ H):
  ∃W:Nat→Nat→St→Hp→Prop,(∃m,W 0 m σ H)∧∀i m σ H,W i m σ H→
   ((Itr lo n).stop i H∧D.nx σ H)∨((Itr lo n).go i H∧∃N:St→Hp→Prop,(∀σ' H',N σ' H'→∃m',m' < m∧W (i+1) m' σ' H')∧∀x H',(Itr lo n).yld i H x H'→g x σ H' λσ2 H2=>tb { D with nx:=N,ct:=N,bk:=D.nx } σ2 H2):=by
 refine ⟨λi m σ H=>m=n - i∧i≤n∧Pv i σ H,⟨n,by simp,ab7 _,h0⟩,?_⟩;rintro i m σ H ⟨rfl,hi,p⟩;by_cases hlt:i < n
 ·refine .inr ⟨hlt,Pv (i+1),λσ' H' p'=>⟨n - (i+1),by omega,rfl,hlt,p'⟩,λx H' y=>?_⟩;obtain ⟨e,y⟩:=y;subst e y;exact hs i σ _ hlt p
 ·have e:i=n:=by omega
  subst e;exact .inl ⟨aa3 _,hd σ H p⟩
abbrev R2:=V→V→Hp→VK→Prop
def OpR (X:Cx) (f:Value→Value→Sem Value) (r:R2):Prop:=
 ∀(pins:List (Addr×Obj)) (s:Shared) (σ:St) (H:Hp) (x y:V) (v u:Value) (Q:VK),Inv X pins σ H s→RelV x v→RelV y u→r x y H Q→
  wpAny (model X.prog X.w) X.A (f v u) (EP X pins σ Q) X.xe s
def UnR (X:Cx) (f:Value→Sem Value) (r:V→Hp→VK→Prop):Prop:=
 ∀(pins:List (Addr×Obj)) (s:Shared) (σ:St) (H:Hp) (x:V) (v:Value) (Q:VK),Inv X pins σ H s→RelV x v→r x H Q→
  wpAny (model X.prog X.w) X.A (f v) (EP X pins σ Q) X.xe s
def cm (X:Cx) (f:Value) (r:List V→Hp→VK→Prop):Prop:=
 ∀(pins:List (Addr×Obj)) (s:Shared) (σ:St) (H:Hp) (xs:List V) (us:List Value) (Q:VK),Inv X pins σ H s→Vals xs us→r xs H Q→
  wpAny (model X.prog X.w) X.A (call f us) (EP X pins σ Q) X.xe s
def tOp (r:R2) (ta tb:TE):TE:=λσ H Q=>ta σ H λx H1=>tb σ H1 λy H2=>r x y H2 Q
def tUn (r:V→Hp→VK→Prop) (ta:TE):TE:=λσ H Q=>ta σ H λx H1=>r x H1 Q
def rI (C:Int→Int→Prop) (g:Int→Int→V):R2:=λx y H Q=>∃i j,x=.int i∧y=.int j∧C i j∧Q (g i j) H
def rI0 (g:Int→Int→V):R2:=λx y H Q=>∃i j,x=.int i∧y=.int j∧Q (g i j) H
def rU (g:Int→V):V→Hp→VK→Prop:=λx H Q=>∃i,x=.int i∧Q (g i) H
section
variable {X:Cx} {a b c:Expr} {ta tb tc:TE} {pos:Pos}
theorem binT (ha:PE X a ta) (hb:PE X b tb) {pins:List (Addr×Obj)} {s:Shared} {σ:St} {H:Hp} {R:V→V→Hp→Prop} (I:Inv X pins σ H s)
  (h:ta σ H λx H1=>tb σ H1 λy H2=>R x y H2) {Q:Value→Shared→Prop} {f:Value→Value→Sem Value}
  (hf:∀v u s2 x y H2,Inv X pins σ H2 s2→RelV x v→RelV y u→R x y H2→wpAny (model X.prog X.w) X.A (f v u) Q X.xe s2):
  wpAny (model X.prog X.w) X.A (eval a X.env) (λv s₁=>wpAny (model X.prog X.w) X.A (eval b X.env) (λu s₂=>wpAny (model X.prog X.w) X.A (f v u) Q X.xe s₂) X.xe s₁) X.xe s:=by
 refine thn (ha pins s σ H _ I h) λv s1 ⟨x,H1,I1,r1,q1⟩=>?_;refine thn (hb pins s1 σ H1 _ I1 q1) λu s2 ⟨y,H2,I2,r2,q2⟩=>?_;exact hf v u s2 x y H2 I2 r1 r2 q2
theorem pe_op {op:Operator} {r:R2} (ho:OpR X (binaryOp op) r) (ha:PE X a ta) (hb:PE X b tb):PE X (.BinOp a op b pos) (tOp r ta tb):=by
 intro pins s σ H Q I h;exact wpAny_BinOp (binT ha hb I h λv u s2 x y H2 I2 rx ry q=>ho pins s2 σ H2 x y v u Q I2 rx ry q)
theorem pe_un {op:UnaryOp} {r:V→Hp→VK→Prop} (ho:UnR X (unaryOp op) r) (ha:PE X a ta):PE X (.UnaryOp op a pos) (tUn r ta):=by
 intro pins s σ H Q I h;exact UnaryOp_ (thn (ha pins s σ H _ I h) λv s1 ⟨x,H1,I1,r1,q1⟩=>ho pins s1 σ H1 x v Q I1 r1 q1)
theorem opI {f:Value→Value→Sem Value} {C:Int→Int→Prop} {g:Int→Int→Int}
  (rule:∀(i j:Int) (t u:Tok) (s:Shared) (Q:Value→Shared→Prop) (E:Value→Shared→Prop),C i j→Q (.int (g i j) s.toks) { s with toks:=s.toks+1 }→wpAny (model X.prog X.w) X.A (f (.int i t) (.int j u)) Q E s):
  OpR X f (rI C λi j=>.int (g i j)):=by
 intro pins s σ H x y v u Q I rx ry h;obtain ⟨i,j,rfl,rfl,hc,q⟩:=h;obtain ⟨t,rfl⟩:=rx;obtain ⟨t',rfl⟩:=ry;exact rule i j t t' s _ _ hc ⟨.int (g i j),H,I.tok _,⟨_,rfl⟩,q⟩
theorem opI0 {f:Value→Value→Sem Value} {g:Int→Int→Int}
  (rule:∀(i j:Int) (t u:Tok) (s:Shared) (Q:Value→Shared→Prop) (E:Value→Shared→Prop),Q (.int (g i j) s.toks) { s with toks:=s.toks+1 }→wpAny (model X.prog X.w) X.A (f (.int i t) (.int j u)) Q E s):
  OpR X f (rI0 λi j=>.int (g i j)):=by
 intro pins s σ H x y v u Q I rx ry h;obtain ⟨i,j,rfl,rfl,q⟩:=h;obtain ⟨t,rfl⟩:=rx;obtain ⟨t',rfl⟩:=ry;exact rule i j t t' s _ _ ⟨.int (g i j),H,I.tok _,⟨_,rfl⟩,q⟩
theorem opB0 {f:Value→Value→Sem Value} {g:Int→Int→Bool}
  (rule:∀(i j:Int) (t u:Tok) (s:Shared) (Q:Value→Shared→Prop) (E:Value→Shared→Prop),Q (.bool (g i j)) s→wpAny (model X.prog X.w) X.A (f (.int i t) (.int j u)) Q E s):
  OpR X f (rI0 λi j=>.bl (g i j)):=by
 intro pins s σ H x y v u Q I rx ry h;obtain ⟨i,j,rfl,rfl,q⟩:=h;obtain ⟨t,rfl⟩:=rx;obtain ⟨t',rfl⟩:=ry;exact rule i j t t' s _ _ ⟨.bl (g i j),H,I,rfl,q⟩
def CDiv (i j:Int):Prop:=0 < j∧j < 1073741824
def CPow (i j:Int):Prop:=0≤j∧j≤1000000∧i.natAbs < 2 ^ 64
def CMul (i j:Int):Prop:=(-(2 ^ 64) < i∧i < 2 ^ 64)∨(-(2 ^ 64) < j∧j < 2 ^ 64)
theorem CMul.ok {i j:Int} (h:CMul i j):IntMulOk i j:=by
 rcases h with ⟨h1,h2⟩ | ⟨h1,h2⟩
 ·exact .of_left (intBits_le_64 h1 h2)
 ·exact .of_right (intBits_le_64 h1 h2)
theorem op_add:OpR X (binaryOp .Add) (rI0 λi j=>.int (i+j)):=opI0 λ_ _ _ _ _ _ _ q=>add_int q
theorem op_sub:OpR X (binaryOp .Sub) (rI0 λi j=>.int (i - j)):=opI0 λ_ _ _ _ _ _ _ q=>sub_int q
theorem op_mul:OpR X (binaryOp .Mult) (rI CMul λi j=>.int (i*j)):=opI λ_ _ _ _ _ _ _ hc q=>mul_int q hc.ok
theorem L8:OpR X (binaryOp .FloorDiv) (rI CDiv λi j=>.int (i / j)):=opI λi j _ _ _ _ _ hc q=>by
 have h1:(0:Int) < j:=hc.1;have h2:j < 1073741824:=hc.2;exact floordiv_int (by omega) (by rw[ad5 i (by omega)];exact q) (.inl (PyProof.noPylong_small (by omega)))
theorem op_mod:OpR X (binaryOp .Mod) (rI (λ_ j=>0 < j) λi j=>.int (i % j)):=opI λi j _ _ _ _ _ hc q=>by
 have h1:(0:Int) < j:=hc;exact mod_int' (by omega) (by rw[Int.fmod_eq_emod_of_nonneg i (by omega)];exact q)
theorem op_pow:OpR X (binaryOp .Pow) (rI CPow λi j=>.int (i ^ j.toNat)):=opI λ_ _ _ _ _ _ _ hc q=>pow_int_small hc.1 hc.2.1 hc.2.2 q
theorem unI {f:Value→Sem Value} {g:Int→Int}
  (rule:∀(i:Int) (t:Tok) (s:Shared) (Q:Value→Shared→Prop) (E:Value→Shared→Prop),Q (.int (g i) s.toks) { s with toks:=s.toks+1 }→wpAny (model X.prog X.w) X.A (f (.int i t)) Q E s):
  UnR X f (rU λi=>.int (g i)):=by
 intro pins s σ H x v Q I rx h;obtain ⟨i,rfl,q⟩:=h;obtain ⟨t,rfl⟩:=rx;exact rule i t s _ _ ⟨.int (g i),H,I.tok _,⟨_,rfl⟩,q⟩
theorem un_neg:UnR X (unaryOp .USub) (rU λi=>.int (-i)):=unI λ_ _ _ _ _ q=>neg_int q
end
noncomputable def scal:V→V→Bool
 | .non,.non=>true | .non,.int _=>true | .int _,.non=>true | .non,.bl _=>true | .bl _,.non=>true | .non,.str _=>true | .str _,.non=>true
 | .int _,.int _=>true | .bl _,.bl _=>true | .str _,.str _=>true | .byt _,.byt _=>true
 | .int _,.str _=>true | .str _,.int _=>true | .bl _,.str _=>true | .str _,.bl _=>true
 | _,_=>false
def rEq:R2:=λx y H Q=>scal x y=true∧Q (.bl (decide (x=y))) H
def rNe:R2:=λx y H Q=>scal x y=true∧Q (.bl (!decide (x=y))) H
theorem Dv {i j:Int}:decide (V.int i=V.int j)=(i==j):=by
 rw[ace];simp
theorem Ji {i j:Bool}:decide (V.bl i=V.bl j)=(i==j):=by
 rw[ace];simp
theorem Ef {i j:Str}:decide (V.str i=V.str j)=(i==j):=by
 rw[ace];simp
theorem Dz {i j:Array UInt8}:decide (V.byt i=V.byt j)=(i.toList==j.toList):=by
 rw[ace];cases i
 cases j
 simp
section
variable {X:Cx} {a b c:Expr} {ta tb tc:TE} {pos:Pos}
theorem bh {pins:List (Addr×Obj)} {σ:St} {H:Hp} {s:Shared} {Q:VK} {k k':Bool} (I:Inv X pins σ H s) (q:Q (.bl k) H) (e:k=k'):EP X pins σ Q (.bool k') s:=by
 subst e;exact ⟨.bl k,H,I,rfl,q⟩
theorem op_eq:OpR X (compareOp .Eq) rEq:=by
 intro pins s σ H x y v u Q I rx ry h;obtain ⟨hs,q⟩:=h;cases x with
 | non=>
  cases rx
  cases y with
  | non=>cases ry;exact PySem.EqNone.eq_none_none (bh I q (by simp))
  | bl j=>cases ry;exact PySem.EqNone.eq_none_bool (bh I q (by simp))
  | int j=>obtain ⟨t',rfl⟩:=ry;exact PySem.EqNone.eq_none_int (bh I q (by simp))
  | str j=>obtain ⟨t',rfl⟩:=ry;exact PySem.EqNone.eq_none_str (bh I q (by simp))
  | _=>exact absurd (show false=true from hs) aan
 | bl i=>
  cases rx
  cases y with
  | non=>cases ry;exact PySem.EqNone.eq_bool_none (bh I q (by simp))
  | bl j=>cases ry;exact eq_bool (bh I q Ji)
  | str j=>obtain ⟨t',rfl⟩:=ry;exact PySem.EqMixed.eq_bool_str (bh I q (by simp))
  | _=>exact absurd (show false=true from hs) aan
 | int i=>
  obtain ⟨t,rfl⟩:=rx;cases y with
  | non=>cases ry;exact PySem.EqNone.eq_int_none (bh I q (by simp))
  | int j=>obtain ⟨t',rfl⟩:=ry;exact eq_int (bh I q Dv)
  | str j=>obtain ⟨t',rfl⟩:=ry;exact PySem.EqMixed.eq_int_str (bh I q (by simp))
  | _=>exact absurd (show false=true from hs) aan
 | str i=>
  obtain ⟨t,rfl⟩:=rx;cases y with
  | non=>cases ry;exact PySem.EqNone.eq_str_none (bh I q (by simp))
  | bl j=>cases ry;exact PySem.EqMixed.eq_str_bool (bh I q (by simp))
  | int j=>obtain ⟨t',rfl⟩:=ry;exact PySem.EqMixed.eq_str_int (bh I q (by simp))
  | str j=>obtain ⟨t',rfl⟩:=ry;exact eq_str (bh I q Ef)
  | _=>exact absurd (show false=true from hs) aan
 | byt i=>
  obtain ⟨t,rfl⟩:=rx;cases y with
  | byt j=>obtain ⟨t',rfl⟩:=ry;exact PySem.W.eq_bytes (bh I q Dz)
  | _=>exact absurd (show false=true from hs) aan
 | _=>cases y <;> exact absurd (show false=true from hs) aan
theorem rf:OpR X (compareOp .NotEq) rNe:=by
 intro pins s σ H x y v u Q I rx ry h;obtain ⟨hs,q⟩:=h;cases x with
 | non=>
  cases rx
  cases y with
  | non=>cases ry;exact PySem.EqNone.ne_none_none (bh I q (by simp))
  | bl j=>cases ry;exact PySem.EqNone.ne_none_bool (bh I q (by simp))
  | int j=>obtain ⟨t',rfl⟩:=ry;exact PySem.EqNone.ne_none_int (bh I q (by simp))
  | str j=>obtain ⟨t',rfl⟩:=ry;exact PySem.EqNone.ne_none_str (bh I q (by simp))
  | _=>exact absurd (show false=true from hs) aan
 | bl i=>
  cases rx
  cases y with
  | non=>cases ry;exact PySem.EqNone.ne_bool_none (bh I q (by simp))
  | bl j=>cases ry;exact ne_bool (bh I q (congrArg not Ji))
  | str j=>obtain ⟨t',rfl⟩:=ry;exact PySem.EqMixed.ne_bool_str (bh I q (by simp))
  | _=>exact absurd (show false=true from hs) aan
 | int i=>
  obtain ⟨t,rfl⟩:=rx;cases y with
  | non=>cases ry;exact PySem.EqNone.ne_int_none (bh I q (by simp))
  | int j=>obtain ⟨t',rfl⟩:=ry;exact ne_int (bh I q (congrArg not Dv))
  | str j=>obtain ⟨t',rfl⟩:=ry;exact PySem.EqMixed.ne_int_str (bh I q (by simp))
  | _=>exact absurd (show false=true from hs) aan
 | str i=>
  obtain ⟨t,rfl⟩:=rx;cases y with
  | non=>cases ry;exact PySem.EqNone.ne_str_none (bh I q (by simp))
  | bl j=>cases ry;exact PySem.EqMixed.ne_str_bool (bh I q (by simp))
  | int j=>obtain ⟨t',rfl⟩:=ry;exact PySem.EqMixed.ne_str_int (bh I q (by simp))
  | str j=>obtain ⟨t',rfl⟩:=ry;exact ne_str (bh I q (congrArg not Ef))
  | _=>exact absurd (show false=true from hs) aan
 | byt i=>
  obtain ⟨t,rfl⟩:=rx;cases y with
  | byt j=>obtain ⟨t',rfl⟩:=ry;exact PySem.W.ne_bytes (bh I q (congrArg not Dz))
  | _=>exact absurd (show false=true from hs) aan
 | _=>cases y <;> exact absurd (show false=true from hs) aan
theorem op_lt:OpR X (compareOp .Lt) (rI0 λi j=>.bl (decide (i < j))):=opB0 λ_ _ _ _ _ _ _ q=>lt_int q
theorem op_le:OpR X (compareOp .LtE) (rI0 λi j=>.bl (decide (i≤j))):=opB0 λ_ _ _ _ _ _ _ q=>le_int q
theorem op_gt:OpR X (compareOp .Gt) (rI0 λi j=>.bl (decide (j < i))):=opB0 λ_ _ _ _ _ _ _ q=>gt_int q
theorem op_ge:OpR X (compareOp .GtE) (rI0 λi j=>.bl (decide (j≤i))):=opB0 λ_ _ _ _ _ _ _ q=>ge_int q
theorem vc:OpR X (compareOp .In) (λx y H Q=>∃i j,x=.str i∧y=.str j∧Q (.bl (!(Builtin.Str.occurrences j i 0 j.length 1).isEmpty)) H):=by
 intro pins s σ H x y v u Q I rx ry h;obtain ⟨i,j,rfl,rfl,q⟩:=h;obtain ⟨t,rfl⟩:=rx;obtain ⟨t',rfl⟩:=ry;exact in_str (bh I q rfl)
theorem nomark (b:Expr) {op:CmpOp} (h:op≠.In:=by decide) (h2:op≠.NotIn:=by decide):behindInMarks op b=false:=by
 have e1:(op==CmpOp.In)=false:=by cases op <;> first | rfl | exact absurd rfl h
 have e2:(op==CmpOp.NotIn)=false:=by cases op <;> first | rfl | exact absurd rfl h2
 cases b <;> simp[behindInMarks,e1,e2]
theorem Dm {op:CmpOp} {r:R2} (ho:OpR X (compareOp op) r) (ha:PE X a ta) (hb:PE X b tb) (hm:behindInMarks op b=false):PE X (.Compare a [op] [b] pos) (tOp r ta tb):=by
 intro pins s σ H Q I h;exact wpAny_Compare1 (binT ha hb I h λv u s2 x y H2 I2 rx ry q=>ho pins s2 σ H2 x y v u Q I2 rx ry q) hm
def tTest (t:TE):TT:=λσ H Q=>t σ H λx H'=>∃k,x=.bl k∧Q k H'
theorem Lr {op:CmpOp} {r:R2} (ho:OpR X (compareOp op) r) (ha:PE X a ta) (hb:PE X b tb) (hm:behindInMarks op b=false):PT X (.Compare a [op] [b] pos) (tTest (tOp r ta tb)):=by
 intro pins s σ H Q I h;refine wpAny_isTrue_Compare1 (thn (ha pins s σ H _ I h) λv s1 ⟨x,H1,I1,r1,q1⟩=>thn (hb pins s1 σ H1 _ I1 q1) λu s2 ⟨y,H2,I2,r2,q2⟩=>
  thn (ho pins s2 σ H2 x y v u _ I2 r1 r2 q2) λc s3 ⟨z,H3,I3,r3,k,e,q3⟩=>?_) hm
 subst e;cases r3
 exact wpAny_truthy_bool ⟨H3,I3,q3⟩
theorem m4:(sizeLine:Nat) < 2 ^ 63:=by rw[sizeLine_eq];decide
theorem Ci:OpR X (binaryOp .Add) (λx y H Q=>∃i j,x=.str i∧y=.str j∧i.length+j.length≤sizeLine∧Q (.str (i++j)) H):=by
 intro pins s σ H x y v u Q I rx ry h;obtain ⟨i,j,rfl,rfl,hz,q⟩:=h;obtain ⟨t,rfl⟩:=rx;obtain ⟨t',rfl⟩:=ry;exact add_str (λt' tk=>⟨.str (i++j),H,I.tok _,⟨_,rfl⟩,q⟩) hz
theorem vals1 {x:V} {us:List Value} (r:Vals [x] us):∃u,us=[u]∧RelV x u:=by
 cases r with
 | cons r1 r2=>cases r2;exact ⟨_,rfl,r1⟩
theorem vals2 {x y:V} {us:List Value} (r:Vals [x,y] us):∃u w',us=[u,w']∧RelV x u∧RelV y w':=by
 cases r with
 | cons r1 r2=>
  cases r2 with
  | cons r3 r4=>cases r4;exact ⟨_,_,rfl,r1,r3⟩
theorem t5 (hc:X.calm=true):cm X (.builtin "max") (λxs H Q=>∃i j,xs=[.int i,.int j]∧Q (.int (if j > i then j else i)) H):=by
 intro pins s σ H xs us Q I r h;obtain ⟨i,j,rfl,q⟩:=h;obtain ⟨u,w',rfl,⟨t,rfl⟩,⟨t',rfl⟩⟩:=vals2 r;refine max_two_ints (I.ok.hd hc) λh' tk k=>⟨_,H,I.kept k,?_,q⟩;by_cases hj:j > i
 ·rw[if_pos hj,if_pos hj];exact ⟨_,rfl⟩
 ·rw[if_neg hj,if_neg hj];exact ⟨_,rfl⟩
theorem Gn (hc:X.calm=true):cm X (.builtin "min") (λxs H Q=>∃i j,xs=[.int i,.int j]∧Q (.int (if j < i then j else i)) H):=by
 intro pins s σ H xs us Q I r h;obtain ⟨i,j,rfl,q⟩:=h;obtain ⟨u,w',rfl,⟨t,rfl⟩,⟨t',rfl⟩⟩:=vals2 r;refine min_two_ints (I.ok.hd hc) λh' tk k=>⟨_,H,I.kept k,?_,q⟩;by_cases hj:j < i
 ·rw[if_pos hj,if_pos hj];exact ⟨_,rfl⟩
 ·rw[if_neg hj,if_neg hj];exact ⟨_,rfl⟩
theorem G7:cm X (.type "int") (λxs H Q=>(∃i,xs=[.int i]∧Q (.int i) H)∨∃k,xs=[.bl k]∧Q (.int (if k then 1 else 0)) H):=by
 intro pins s σ H xs us Q I r h;rcases h with ⟨i,rfl,q⟩ | ⟨k,rfl,q⟩
 ·obtain ⟨u,rfl,t,rfl⟩:=vals1 r;exact call_int_int ⟨.int i,H,I,⟨_,rfl⟩,q⟩
 ·obtain ⟨u,rfl,r1⟩:=vals1 r;cases r1
  exact call_int_bool ⟨.int (if k then 1 else 0),H,I.tok _,⟨_,rfl⟩,q⟩
end
structure ObjM (h:Heap) (x dx C:Addr) (mA:Str→Option Value):Prop where
 obj:h.get? x=some (PySem.W.instObj C dx)
 ns:h.Ns1 dx mA
 ne:dx≠x
theorem Fw {h:Heap} {dx:Addr} {mA:Str→Option Value} (n:h.Ns1 dx mA):∃od,h.get? dx=some od∧∀name,PySem.W.lookIn name od=some (mA name):=by
 obtain ⟨o,es,ep,ho,hd,hk,_,hm⟩:=n;refine ⟨o,ho,λname=>?_⟩;have e:=hm name;unfold nsFind findBy at e;rw[←Array.find?_toList] at e;unfold PySem.W.lookIn;rw[hd];dsimp only;split
 ·rename_i y q
  rw[q] at e;exact congrArg some e
 ·rename_i q
  rw[q] at e;have a:es.toList.any (·.refKey)=false:=by
   rw[ae3];intro y hy;obtain ⟨z,t,hkey⟩:=hk y (Array.mem_toList_iff.mp hy);simp[DictEntry.refKey,hkey]
  have a':¬es.toList.any (·.refKey)=true:=by rw[a];exact aan
  rw[if_neg a'];exact congrArg some e
theorem ObjM.look {h:Heap} {x dx C:Addr} {mA:Str→Option Value} (I:ObjM h x dx C mA):∃od,PySem.W.InstAt h x (PySem.W.instObj C dx) C (some od)∧∀name,PySem.W.lookIn name od=some (mA name):=
 let ⟨od,ho,hl⟩:=Fw I.ns
 ⟨od,⟨I.obj,rfl,rfl,ho⟩,hl⟩
theorem dq.some_of {v:V} {o:Option Value} (r:dq (some v) o):∃u,o=some u∧RelV v u:=by
 cases o with
 | none=>exact (show False from r).elim
 | some u=>exact ⟨u,rfl,r⟩
theorem dq.none_of {o:Option Value} (r:dq none o):o=none:=by
 cases o with
 | none=>rfl
 | some u=>exact (show False from r).elim
theorem G6 {v:V} {u:Value} (r:RelV v u):PySem.W.handedIn u=true:=by
 cases v with
 | non=>cases (show u=Value.none from r);rfl
 | bl b=>cases (show u=Value.bool b from r);rfl
 | int i=>obtain ⟨t,e⟩:=(show ∃t,u=Value.int i t from r);cases e;rfl
 | str x=>obtain ⟨t,e⟩:=(show ∃t,u=Value.str x t from r);cases e;rfl
 | byt b=>obtain ⟨t,e⟩:=(show ∃t,u=Value.bytes b t from r);cases e;rfl
 | flt b=>obtain ⟨t,e⟩:=(show ∃t,u=Value.float b t from r);cases e;rfl
 | ref a=>cases (show u=Value.ref a from r);rfl
 | ty n=>cases (show u=Value.type n from r);rfl
section
variable {P:Program} {w:World} {H H':Hp} {h h':Heap} {a C dx:Addr} {fs fs':List (Str×V)}
theorem xu (hok:HOk P w H h) (e:H a=some (.ins C dx fs)):∃mA,ObjM h a dx C mA∧(∀f,dq (fs.lookup f) (mA f))∧PySem.Within mA (fs.map (·.1))∧fs.length≤1000∧H dx=some (.own a):=by
 obtain ⟨d,z,ne,ob,mA,n,r,q⟩:=(show b4 P w H h a (.ins C dx fs) from hok a _ e);exact ⟨mA,⟨ob,n,ne⟩,r,q,z,d⟩
end
structure Cls (K:PySem.W.Frag) (C:Addr):Prop where
 pg:PySem.W.plainGet K C Str.empty=true
 hd:PySem.W.hasDictIn K C=true
 po:PySem.W.plainOver K C=true
 sa:PySem.W.findIn K (.ref C) "__setattr__"=some (some (.builtin "object.__setattr__"))
theorem Cls.get {K:PySem.W.Frag} {C:Addr} (c:Cls K C) (f:Str):PySem.W.plainGet K C f=true:=c.pg
section
variable {X:Cx} {pins:List (Addr×Obj)} {σ:St} {H:Hp} {s:Shared} {a C dx:Addr} {fs:List (Str×V)} {f:Str} {v:V} {A:Around} {E:Value→Shared→Prop}
theorem M9 {prog:Program} {w:World} {env:Env} {e:Expr} {f:Str} {pos:Pos} {s:Shared} {Q:Value→Shared→Prop} (hb:attributeBase e f env (eval e env)=eval e env)
  (h:wpAny (model prog w) A (eval e env) (λo s₁=>wpAny (model prog w) A (getAttr o f true) Q E s₁) E s):wpAny (model prog w) A (eval (.Attribute e f pos) env) Q E s:=
 Attribute_any_ h (by rw[arm_eval_Attribute,hb])
end
section
variable {X:Cx} {pins:List (Addr×Obj)} {σ:St} {H:Hp} {s:Shared} {A:Around} {E:Value→Shared→Prop} {Q:Value→Shared→Prop} {c:Value} {b:Bool}
inductive mz (K:PySem.W.Frag) (H:Hp):V→Value→Prop where
 | non:mz K H .non (.type "NoneType")
 | bl (x:Bool):mz K H (.bl x) (.type "bool")
 | int (i:Int):mz K H (.int i) (.type "int")
 | str (x:Str):mz K H (.str x) (.type "str")
 | flt (x:UInt64):mz K H (.flt x) (.type "float")
 | lst {a:Addr} {xs:List V} (e:H a=some (.lst xs)):mz K H (.ref a) (.type "list")
 | frz {a:Addr} {o:Obj} {xs:List V} (e:H a=some (.frz o (.lst xs))):mz K H (.ref a) (.type "list")
 | tup {a:Addr} {xs:List V} (e:H a=some (.tup xs)):mz K H (.ref a) (.type "tuple")
 | dK {a:Addr} {kvs:List (Key×V)} (e:H a=some (.dK kvs)):mz K H (.ref a) (.type "dict")
 | dT {a:Addr} {kvs:List (List Key×V)} (e:H a=some (.dT kvs)):mz K H (.ref a) (.type "dict")
 | ins {a C dx:Addr} {fs:List (Str×V)} (e:H a=some (.ins C dx fs)) (cl:Cls K C) (ha:PySem.W.findIn K (.ref C) "__class__"=some (some (.builtin "object.__class__")))
   (hn:PySem.W.specialIn K (.builtin "object.__class__") "__get__"=some (some (.builtin "getset_descriptor.__get__"))) (htk:PySem.W.takesIn K (.builtin "object.__class__")=some true)
   (hm:PySem.W.mroIn K C (.type "object")=some true):mz K H (.ref a) (.ref C)
theorem Gu {x:V} {u t:Value} (I:Inv X pins σ H s) (rx:RelV x u) (ty:mz X.K H x t) (e:PySem.W.kitOne X.K t c=some b) (h:∀tk,Q (.bool b) { s with toks:=tk }):
  wpAny (model X.prog X.w) A (call (.builtin "isinstance") [u,c]) Q E s:=by
 cases ty with
 | non=>cases (show u=Value.none from rx);exact PySem.W.kia_one PySem.W.kitx_none I.kIn True.intro e (λz=>nomatch z) h
 | bl y=>cases (show u=Value.bool y from rx);exact PySem.W.kia_one PySem.W.kitx_bool I.kIn True.intro e (λz=>nomatch z) h
 | int i=>obtain ⟨t,q⟩:=(show ∃t,u=Value.int i t from rx);cases q;exact PySem.W.kia_one PySem.W.kitx_int I.kIn True.intro e (λz=>nomatch z) h
 | str y=>obtain ⟨t,q⟩:=(show ∃t,u=Value.str y t from rx);cases q;exact PySem.W.kia_one PySem.W.kitx_str I.kIn True.intro e (λz=>nomatch z) h
 | flt y=>obtain ⟨t,q⟩:=(show ∃t,u=Value.float y t from rx);cases q;exact PySem.W.kia_one PySem.W.kitx_float I.kIn True.intro e (λz=>nomatch z) h
 | @lst a xs ea=>
  cases (show u=Value.ref a from rx)
  obtain ⟨_,_,n,_,h1⟩:=(show b4 X.prog X.w H s.heap a (.lst xs) from I.hok a _ ea);exact PySem.W.kia_one PySem.W.kitx_list I.kIn ⟨_,h1,rfl⟩ e (λz=>nomatch z) h
 | @frz a ob xs ea=>
  cases (show u=Value.ref a from rx)
  obtain ⟨_,_,_,n,_,h1⟩:=(show b4 X.prog X.w H s.heap a (.frz ob (.lst xs)) from I.hok a _ ea);exact PySem.W.kia_one PySem.W.kitx_list I.kIn ⟨_,h1,rfl⟩ e (λz=>nomatch z) h
 | @tup a xs ea=>
  cases (show u=Value.ref a from rx)
  obtain ⟨_,_,_,p⟩:=(show b4 X.prog X.w H s.heap a (.tup xs) from I.hok a _ ea);obtain ⟨o,h1,h2,_⟩:=p;exact PySem.W.kia_one PySem.W.kitx_tuple I.kIn ⟨o,h1,h2⟩ e (λz=>nomatch z) h
 | @dK a kvs ea=>
  cases (show u=Value.ref a from rx)
  obtain ⟨_,_,vs,_,p⟩:=(show b4 X.prog X.w H s.heap a (.dK kvs) from I.hok a _ ea);obtain ⟨o,es,ep,h1,h2,_⟩:=p;exact PySem.W.kia_one PySem.W.kitx_dict I.kIn ⟨o,h1,h2.1⟩ e (λz=>nomatch z) h
 | @dT a kvs ea=>
  cases (show u=Value.ref a from rx)
  obtain ⟨_,_,xs,_,o,es,ep,h1,h2,_⟩:=(show b4 X.prog X.w H s.heap a (.dT kvs) from I.hok a _ ea);exact PySem.W.kia_one PySem.W.kitx_dict I.kIn ⟨o,h1,h2.1⟩ e (λz=>nomatch z) h
 | @ins a C dx fs ea cl ha hn htk hm=>
  cases (show u=Value.ref a from rx)
  obtain ⟨mA,O,_⟩:=xu I.hok ea;obtain ⟨od,J,_⟩:=O.look;exact PySem.W.kia_one (PySem.W.kitx_own (cl.get _) cl.hd ha hn htk hm) I.kIn J e (λz=>nomatch z) h
end
structure cv (k:Nat) (A:Around):Prop where
 hd:A.handled=none
 dp:A.depth+3*k+5 < recursionLimit
 un:A.units+16*k+200 < cLine
theorem cv.mono {j k:Nat} {A:Around} (r:cv k A) (h:j≤k):cv j A:=⟨r.hd,by have:=r.dp;omega,by have:=r.un;omega⟩
theorem cv.deeper {k:Nat} {A:Around} (r:cv (k+1) A) (env:Env):cv k (A.deeper env):=
 ⟨r.hd,by have:=r.dp;show A.depth+1+3*k+5 < _;omega,by have:=r.un;show A.units+3+16*k+200 < _;omega⟩
theorem Ay {A:Around} {C:Addr} {us:List Value} {kw:List (Str×Value)}:(A.under (.builtin "type.__call__" ⟨.ref C::us,kw⟩)).depth=A.depth+1:=by
 first | rfl | simp[Around.under,Code.weight,Code.isCreation,Code.isGuard,Code.isCaller,Code.frames,Code.isFrame,guardIds]
theorem Aq {A:Around} {C:Addr} {us:List Value} {kw:List (Str×Value)}:(A.under (.builtin "type.__call__" ⟨.ref C::us,kw⟩)).units=A.units+1:=by
 first | rfl | simp[Around.under,Code.cUnits,Code.frames,Code.isFrame]
theorem cv.make {k:Nat} {A:Around} (r:cv (k+1) A) (C:Addr) (us:List Value) (kw:List (Str×Value)):cv k (A.under (.builtin "type.__call__" ⟨.ref C::us,kw⟩)):=
 ⟨r.hd,by have:=r.dp;rw[Ay];omega,by have:=r.un;rw[Aq];omega⟩
theorem cv.depth {k:Nat} {A:Around} (r:cv k A):A.depth < recursionLimit:=by have:=r.dp;omega
theorem cv.units {k:Nat} {A:Around} (r:cv k A):A.units+64 < cLine:=by have:=r.un;omega
def tNil:TA:=λ_ H Q=>Q [] H
def tCons (ta:TE) (tr:TA):TA:=λσ H Q=>ta σ H λx H1=>tr σ H1 λxs H2=>Q (x::xs) H2
section
variable {X:Cx} {e:Expr} {es:List Expr} {te:TE} {t:TA} {pos:Pos}
theorem Aw:PA X [] tNil:=λ_ _ _ _ H Q I h=>Calls.spliced_nil ⟨[],H,I,.nil,h⟩
theorem mw (ha:PE X e te) (hr:PA X es t) (hs:starEach (e::es) X.env=(false,eval e X.env)::starEach es X.env:=by rfl):PA X (e::es) (tCons te t):=by
 intro pos pins s σ H Q I h;rw[hs];show wpAny _ _ (spliced ((false,eval e X.env)::backTo pos (starEach es X.env))) _ _ s
 refine Calls.spliced_cons (thn (ha pins s σ H _ I h) λu s1 ⟨x,H1,I1,r1,q1⟩=>?_);exact thn (hr pos pins s1 σ H1 _ I1 q1) λus s2 ⟨xs,H2,I2,r2,q2⟩=>⟨x::xs,H2,I2,.cons r1 r2,q2⟩
def tTup (t:TA):TE:=λσ H Q=>t σ H λxs H1=>xs.length≤sizeLine∧∀p,H1 p=none→Q (.ref p) (upd H1 p (.tup xs))
def tLst (t:TA):TE:=λσ H Q=>t σ H λxs H1=>xs.length≤sizeLine∧∀p,H1 p=none→Q (.ref p) (upd H1 p (.lst xs))
theorem pe_tup {x1} (h:PA X es t):PE X (.Tuple es x1 pos) (tTup t):=by
 intro pins s σ H Q I hq;refine wpAny_Tuple_spliced (thn (h pos pins s σ H _ I hq) λus s1 ⟨xs,H1,I1,r,z,q⟩=>⟨by rw[←r.length];exact z,?_⟩);have hf:H1 s1.heap.objs.size=none:=I1.hok.fresh (aa3 _);refine ⟨.ref s1.heap.objs.size,upd H1 s1.heap.objs.size (.tup xs),I1.laid (t':=s1.toks) (λb u e=>Heap.get?_push_of_some _ e) (aa3 _) ?_,rfl,q _ hf⟩;exact ⟨z,us,r,⟨_,Heap.get?_push_size _ rfl,rfl,_,rfl,rfl⟩⟩
theorem pe_lst (h:PA X es t):PE X (.List es pos) (tLst t):=by
 intro pins s σ H Q I hq;refine wpAny_List_spliced (thn (h pos pins s σ H _ I hq) λus s1 ⟨xs,H1,I1,r,z,q⟩=>⟨by rw[←r.length];exact z,?_⟩);have hf:H1 s1.heap.objs.size=none:=I1.hok.fresh (aa3 _);refine ⟨.ref s1.heap.objs.size,upd H1 s1.heap.objs.size (.lst xs),I1.laid (t':=s1.toks) (λb u e=>Heap.get?_push_of_some _ e) (aa3 _) ?_,rfl,q _ hf⟩;exact ⟨z,us,0,r,Heap.get?_push_size _ rfl⟩
end
abbrev Sp:=List V→Hp→VK→XK→Prop
abbrev CXT:=List Env→Hp→Shared→XK→Value→Shared→Prop
structure Br (P:Program) (w:World) (K:PySem.W.Frag) (mg:Str→Option Value) (base:Heap) (A:Around) (outer:List Env) (s:Shared) (H:Hp):Prop where
 frames:A.frames=some outer
 mod:Mod K mg base
 bs:∀b o,base.get? b=some o→s.heap.get? b=some o∧H b=none
 bsz:base.objs.size≤s.heap.objs.size
 lz:s.heap.FunFrames base outer
 frf:∀b∈frs outer,H b=none
 hok:HOk P w H s.heap
 bare:AllBare s.gens
def CE (outer:List Env) (P:Program) (w:World) (H:Hp) (s:Shared) (Q:VK) (u:Value) (s':Shared):Prop:=
 ∃v H',s'.os=s.os∧AllBare s'.gens∧Un (frs outer) [] H H' s.heap s'.heap∧HOk P w H' s'.heap∧RelV v u∧Q v H'
def CR (CX:CXT) (outer:List Env) (P:Program) (w:World) (H:Hp) (s:Shared) (Q:VK) (E:XK) (r:Result) (s':Shared):Prop:=
 match r with
 | .ok (.ret u)=>CE outer P w H s Q u s'
 | .ok _=>False
 | .error e=>CX outer H s E e s'
structure h9 (P:Program) (w:World) (K:PySem.W.Frag) (mg:Str→Option Value) (base:Heap) (CX:CXT) (k:Nat) (f:Addr) (fd:FuncData) (ps:List Str) (sp:Sp):Prop where
 len:∀vs H Q E,sp vs H Q E→vs.length=ps.length
 run:∀(A:Around) (outer:List Env) (s:Shared) (H:Hp) (args:Args) (us:List Value) (vs:List V) (Q:VK) (E:XK),cv k A→Br P w K mg base A outer s H→BindsTo s fd args (ps.zip us)→Vals vs us→sp vs H Q E→
  codeAny (model P w) A (.call (.ref f) args) (CR CX outer P w H s Q E) s
theorem h9.mono {P:Program} {w:World} {K:PySem.W.Frag} {mg:Str→Option Value} {base:Heap} {CX:CXT} {j k:Nat} {f:Addr} {fd:FuncData} {ps:List Str} {sp:Sp} (F:h9 P w K mg base CX j f fd ps sp) (h:j≤k):
  h9 P w K mg base CX k f fd ps sp:=⟨F.len,λA outer s H args us vs Q E hr=>F.run A outer s H args us vs Q E (hr.mono h)⟩
theorem Br.make {P:Program} {w:World} {K:PySem.W.Frag} {mg:Str→Option Value} {base:Heap} {A:Around} {outer:List Env} {s:Shared} {H:Hp} (e:Br P w K mg base A outer s H) (C:Addr) (us:List Value) (kw:List (Str×Value)):
  Br P w K mg base (A.under (.builtin "type.__call__" ⟨.ref C::us,kw⟩)) outer s H:=⟨by first | exact e.frames | (simpa [Around.under,Code.envs,Code.isFrame,pushEnvs] using e.frames),e.mod,e.bs,e.bsz,e.lz,e.frf,e.hok,e.bare⟩
section
variable {X:Cx} {pins:List (Addr×Obj)} {σ:St} {H:Hp} {s s':Shared}
theorem Inv.gk (I:Inv X pins σ H s):Br X.prog X.w X.K X.mg X.base X.A X.stack s H:=
 ⟨I.ok.frames,I.ok.mod,I.bs,aak I.ok.bsz I.sz,I.stack,I.yf,I.hok,I.bare⟩
theorem Inv.after {Q:VK} {u:Value} (I:Inv X pins σ H s) (h:CE X.stack X.prog X.w H s Q u s'):EP X pins σ Q u s':=by
 obtain ⟨v,H',os,bare,un,hok,r,q⟩:=h;obtain ⟨hh,g,d,t,os'⟩:=s';obtain rfl:os'=s.os:=os;exact ⟨v,H',I.call (h':=hh) (g':=g) (d':=d) (t':=t) (ch:=[]) un hok bare (λb z=>absurd z (by simp)),r,q⟩
end
def zo (sp:Sp) (dvs:List V) (E:XK) (t:TA):TE:=λσ H Q=>t σ H λvs H1=>sp (vs++dvs) H1 Q E
def Binds (K:PySem.W.Frag) (fd:FuncData) (ps:List Str) (ds:List Value):Prop:=
 ∀(s:Shared) (us:List Value),K.In s.heap→(us++ds).length=ps.length→BindsTo s fd ⟨us,[]⟩ (ps.zip (us++ds))
theorem Binds.all {K:PySem.W.Frag} {fd:FuncData} {ps:List Str} (h:∀us:List Value,us.length=ps.length→bindArgs fd ⟨us,[]⟩=pure (ps.zip us)):Binds K fd ps []:=λs us _ hl=>by
 rw[aaq] at hl ⊢;exact .of_eq (h us hl)
def Passes (CX:CXT) (X:Cx) (E:XK):Prop:=∀(pins:List (Addr×Obj)) (σ:St) (H:Hp) (s:Shared) (e:Value) (s':Shared),Inv X pins σ H s→CX X.stack H s E e s'→X.xe e s'
section
variable {X:Cx} {CX:CXT} {k:Nat} {f C:Addr} {fd:FuncData} {ps:List Str} {sp:Sp} {dvs:List V} {ds:List Value} {E:XK} {x m:Str} {p pos apos:Pos} {e o:Expr} {es:List Expr} {ta:TE} {t:TA}
theorem run_fn {pins:List (Addr×Obj)} {σ:St} {H:Hp} {s:Shared} {Q:VK} {us:List Value} {vs:List V} (F:h9 X.prog X.w X.K X.mg X.base CX k f fd ps sp) (hr:cv k X.A) (hb:Binds X.K fd ps ds) (hd:Vals dvs ds) (hx:Passes CX X E)
  (I:Inv X pins σ H s) (r:Vals vs us) (h:sp (vs++dvs) H Q E):wpAny (model X.prog X.w) X.A (call (.ref f) us) (EP X pins σ Q) X.xe s:=by
 have r2:Vals (vs++dvs) (us++ds):=r.append hd;have hl:(us++ds).length=ps.length:=by rw[←r2.length];exact F.len _ _ _ _ h
 refine wpAny_call (codeAny_mono (F.run X.A X.stack s H ⟨us,[]⟩ (us++ds) (vs++dvs) Q E hr I.gk (hb s us I.kIn hl) r2 h) λr s' hq=>?_);cases r with
 | error e=>exact hx pins σ H s e s' I hq
 | ok fl=>
  cases fl with
  | ret u=>exact I.after hq
  | next=>exact False.elim hq
  | brk=>exact False.elim hq
  | cont=>exact False.elim hq
theorem xt (F:h9 X.prog X.w X.K X.mg X.base CX k f fd ps sp) (hr:cv k X.A) (hg:Gl X x) (hm:X.mg x=some (.ref f)) (hk:PySem.W.keepIn X.K (.ref f)=true) (hb:Binds X.K fd ps ds) (hd:Vals dvs ds) (hx:Passes CX X E)
  (ha:PA X (e::es) t) (hdb:(x==("__debug__":Str))=false:=by decide) (he:starEach (e::es) X.env=(false,eval e X.env)::starEach es X.env:=by rfl) (hpl:(backTo pos (starEach es X.env)).any (·.1)=false:=by rfl):
  PE X (.Call (.Name x p) (e::es) [] pos) (zo sp dvs E t):=by
 intro pins s σ H Q I h;refine wpAny_Call_Name_kw (js I hg hm ?_ hdb);refine PySem.W.callWith_K (h₀:=X.base) I.ok.mod.kin hk (thn (ha pos pins s σ H _ I h) λus s1 ⟨vs,H1,I1,r,q⟩=>⟨I1.kIn,?_⟩) he hpl;exact run_fn F hr hb hd hx I1 r q
end
structure au (N P:List Str) (sc:Scope):Prop where
 kind:sc.kind=.function
 co:sc.isCoroutine=false
 gen:sc.isGenerator=false
 nd:N.Nodup
 pre:N.take P.length=P
 par:∀x∈P,sc.names.lookup x=some .local∨sc.names.lookup x=some .cell
 nofree:∀y∈sc.names,y.2≠.free
theorem uy {kindOf:Str→Option NameKind} {x:Str}:∀{binds:List (Str×Value)} {m:Str→Option Value},(∀v,(x,v)∉binds)→bindL kindOf binds m x=m x
 | [],_,_=>rfl
 | (n,v)::r,m,h=>by
  unfold bindL;rw[uy λw hw=>h w (aab _ hw)];split
  ·have:x≠n:=by rintro rfl;exact h v aa6
   simp[this]
  ·rfl
theorem u4 {kindOf:Str→Option NameKind} {x:Str}:∀{binds:List (Str×Value)} {m:Str→Option Value},(∀v,(x,v)∉binds)→bindC kindOf binds m x=m x
 | [],_,_=>rfl
 | (n,v)::r,m,h=>by
  unfold bindC;rw[u4 λw hw=>h w (aab _ hw)];split
  ·rfl
  ·have:x≠n:=by rintro rfl;exact h v aa6
   simp[this]
theorem t9 {kindOf:Str→Option NameKind} {x:Str} {v:Value}:∀{P:List Str} {vs:List Value} {i:Nat} {m:Str→Option Value},P.Nodup→P[i]?=some x→vs[i]?=some v→kindOf x=some .local→
  bindL kindOf (P.zip vs) m x=some v
 | [],_,_,_,_,h,_,_=>by simp at h
 | _::_,[],_,_,_,_,h,_=>by simp at h
 | p::P,w::vs,0,m,nd,h1,h2,hk=>by
  simp at h1 h2;subst h1;subst h2;show bindL kindOf ((p,w)::P.zip vs) m p=_
  unfold bindL;rw[uy λv hv=>(List.nodup_cons.mp nd).1 (adk hv).1,if_pos hk];simp
 | p::P,w::vs,i+1,m,nd,h1,h2,hk=>by
  show bindL kindOf ((p,w)::P.zip vs) m x=_
  unfold bindL;exact t9 (i:=i) (List.nodup_cons.mp nd).2 (by simpa using h1) (by simpa using h2) hk
theorem sv {kindOf:Str→Option NameKind} {x:Str} {v:Value}:∀{P:List Str} {vs:List Value} {i:Nat} {m:Str→Option Value},P.Nodup→P[i]?=some x→vs[i]?=some v→kindOf x≠some .local→
  bindC kindOf (P.zip vs) m x=some v
 | [],_,_,_,_,h,_,_=>by simp at h
 | _::_,[],_,_,_,_,h,_=>by simp at h
 | p::P,w::vs,0,m,nd,h1,h2,hk=>by
  simp at h1 h2;subst h1;subst h2;show bindC kindOf ((p,w)::P.zip vs) m p=_
  unfold bindC;rw[u4 λv hv=>(List.nodup_cons.mp nd).1 (adk hv).1,if_neg hk];simp
 | p::P,w::vs,i+1,m,nd,h1,h2,hk=>by
  show bindC kindOf ((p,w)::P.zip vs) m x=_
  unfold bindC;exact sv (i:=i) (List.nodup_cons.mp nd).2 (by simpa using h1) (by simpa using h2) hk
noncomputable def start (N:List Str) (vs:List V):St:=vs.map some++abd (N.length - vs.length) none
noncomputable def kq (CX:CXT) (P:Program) (w:World) (K:PySem.W.Frag) (mg:Str→Option Value) (base:Heap) (N:List Str) (qual:Str) (scope:Scope) (f:Addr) (cd:Value) (A:Around) (outer:List Env) (s:Shared) (H:Hp) (E:XK):Cx where
 prog:=P
 w:=w
 K:=K
 mg:=mg
 base:=base
 A:=A.deeper (envOfC qual scope s.heap.objs.size f cd)
 N:=N
 s₀:=s
 H₀:=H
 env:=envOfC qual scope s.heap.objs.size f cd
 outer:=outer
 stack:=envOfC qual scope s.heap.objs.size f cd::outer
 ex:=[]
 calm:=true
 fn:=λ_=>true
 pn:=[]
 xe:=λe s'=>wpAny (model P w) (A.deeper (envOfC qual scope s.heap.objs.size f cd)) (leaving (envOfC qual scope s.heap.objs.size f cd) e) (λ_ s''=>CX outer H s E e s'') (λe' s''=>CX outer H s E e' s'') s'
theorem yr {sc:Scope} {n:Nat} {x:Str} (h:sc.names.lookup x=some .cell):∃c,(cellsFrom n sc.names []).lookup x=some c:=by
 have q:=PySem.W.cellsFrom_some sc.names n [] (.inl h);exact Option.isSome_iff_exists.mp q
theorem Gp {CX:CXT} {P:Program} {w:World} {K:PySem.W.Frag} {mg:Str→Option Value} {base:Heap} {N ps:List Str} {qual:Str} {scope:Scope} {f:Addr} {cd:Value} {A:Around} {outer:List Env} {s s1:Shared} {H:Hp} {E:XK} {us:List Value} {vs:List V}
  (S:au N ps scope) (hd:A.handled=none) (e0:Br P w K mg base A outer s H) (hl:vs.length=ps.length) (r:Vals vs us)
  (x:InCallC s s.heap.objs.size (bindL (envOfC qual scope s.heap.objs.size f cd).kindOf (ps.zip us) λ_=>none) (cellsFrom (s.heap.objs.size+1) scope.names []) (bindC (envOfC qual scope s.heap.objs.size f cd).kindOf (ps.zip us) λ_=>none) s1):
  Inv (kq CX P w K mg base N qual scope f cd A outer s H E) [] (start N vs) H s1:=by
 have hpl:ps.length≤N.length:=by have:=congrArg List.length S.pre;rw[aaa] at this;omega
 obtain ⟨h1,tk,rfl,hk⟩:=x.done;have noA:∀b:Addr,b∉(kq CX P w K mg base N qual scope f cd A outer s H E).ex:=λb z=>absurd (show b∈([]:List Addr) from z) (by simp);refine ⟨⟨e0.mod,S.kind,rfl,rfl,aa3 _,λy z c h1 h2=>?_,λy hy=>?_,λy c _ h=>?_,λ_=>hd,Around.frames_deeper e0.frames,.inr ⟨rfl,rfl⟩,λb z=>absurd z (noA b),e0.bs,e0.bsz,λb _ _=>noA b,λb z=>absurd z (noA b),e0.lz,e0.frf⟩,
  rfl,e0.bare,Un.kept hk,⟨_,x.toInCall.ns,λi y v h1 h2 h3=>?_⟩,λy c h=>⟨_,x.cell y c h⟩,e0.hok.fresh (aa3 _),λy c h=>?_,λp hp=>absurd (show p∈([]:List (Addr×Obj)) from hp) (by simp),e0.hok.kept hk,?_⟩
 ·exact name_of_addr x.apart (PySem.mem_of_lookup h1) (PySem.mem_of_lookup h2)
 ·have hy:scope.names.lookup y=some .cell∨scope.names.lookup y=some .free:=hy;rcases hy with hy | hy
  ·exact yr hy
  ·exact absurd rfl (S.nofree _ (PySem.mem_of_lookup hy))
 ·exact adb (x.above y c (PySem.mem_of_lookup h))
 ·have hi:i < vs.length:=by
   unfold start at h2;by_cases hi:i < vs.length
   ·exact hi
   ·rw[aaz (by simpa using hi)] at h2;rw[adi] at h2;split at h2 <;> cases h2
  have ha:vs[i]?=some v:=by
   unfold start at h2;rw[ab6 (by simpa using hi),aag] at h2;cases e:vs[i]? with
   | none=>rw[e] at h2;cases h2
   | some a=>rw[e] at h2;cases h2;rfl
  obtain ⟨u,hu,rv⟩:=r.get ha;have hp:ps[i]?=some y:=by
   rw[←S.pre,abk (by omega)];exact h1
  have ndP:ps.Nodup:=by rw[←S.pre];exact S.nd.sublist (ae4 _ _)
  refine ⟨u,rv,?_⟩;rcases S.par y (aap hp) with k | k
  ·exact .inl ⟨k,t9 ndP hp hu k⟩
  ·obtain ⟨c,e⟩:=yr (n:=s.heap.objs.size+1) k;refine .inr ⟨.inl k,c,e,?_⟩;have q:=x.cell y c e;rw[sv ndP hp hu (by show scope.names.lookup y≠_;rw[k];decide)] at q;exact q
 ·exact e0.hok.fresh (adb (x.above y c (PySem.mem_of_lookup h)))
 ·unfold start;show _=N.length
  rw[aa4,aa2,abi];omega
theorem fn_of {CX:CXT} {P:Program} {w:World} {K:PySem.W.Frag} {mg:Str→Option Value} {base:Heap} {k:Nat} {f:Addr} {name qual:Str} {params:Arguments} {body:List Stmt} {scope:Scope} {dV kV doc pm cdv ct oc:Value} {an od:Option Addr}
  {osl:Array (Option Value)} {N ps:List Str} {sp:Sp} (lk:K.lookup f=some ⟨oc,od,.func (PySem.W.fnOf name qual params body scope dV kV doc pm an cdv ct),osl⟩) (hcd:PySem.W.codeIn K cdv qual=true) (S:au N ps scope)
  (len:∀vs H Q E,sp vs H Q E→vs.length=ps.length)
  (hbody:∀(A:Around) (outer:List Env) (s:Shared) (H:Hp) (vs:List V) (Q:VK) (E:XK),cv k (A.deeper (envOfC qual scope s.heap.objs.size f cdv))→sp vs H Q E→
   ∃t,PSs (kq CX P w K mg base N qual scope f cdv A outer s H E) body t∧t { nx:=λ_ H'=>Q .non H',rt:=Q } (start N vs) H):
  h9 P w K mg base CX (k+1) f (PySem.W.fnOf name qual params body scope dV kV doc pm an cdv ct) ps sp:=by
 refine ⟨len,λA outer s H args us vs Q E hr e0 hb r hsp=>?_⟩;have hl:=len _ _ _ _ hsp;have KX:K.In s.heap:=e0.mod.kin.keeps λb o e=>(e0.bs b o e).1;have lim:s.heap.NoLimit:=e0.mod.nolimit.keeps λb o e=>(e0.bs b o e).1;have hkind:∀y∈ps.zip us,scope.names.lookup y.1=some .local∨(scope.names.lookup y.1=some .cell∧((cellsFrom (s.heap.objs.size+1) scope.names []).lookup y.1).isSome=true):=λ⟨n,v⟩ hy=>by
  rcases S.par n (adk hy).1 with q | q
  ·exact .inl q
  ·exact .inr ⟨q,PySem.W.cellsFrom_some _ _ _ (.inl q)⟩
 refine codeAny_call_function hr.depth (KX _ _ lk) rfl S.co S.gen rfl (PySem.W.codeRec_of KX hcd) (hb _ _ _ _ ?_);refine wpAny_newFunctionEnv_cells S.kind hkind λenv he s1 x=>?_;subst he;refine ⟨lim.keeps x.toInCall.keep,codeAny_func ?_⟩;obtain ⟨t,ht,hq⟩:=hbody A outer s H vs Q E (hr.deeper _) hsp;have I:Inv (kq CX P w K mg base N qual scope f cdv A outer s H E) [] (start N vs) H s1:=Gp S hr.hd e0 hl r x;refine wpAny_mono (ht [] s1 (start N vs) H _ I hq) (λfl s' hs=>?_) λe s' hs=>hs;have fin:∀{σ':St} {H':Hp} {v:V} {u:Value},Inv (kq CX P w K mg base N qual scope f cdv A outer s H E) [] σ' H' s'→RelV v u→Q v H'→CE outer P w H s Q u s':=
  λ{σ' H' v u} J rv q=>⟨v,H',J.os,J.bare,J.base,J.hok,rv,q⟩
 cases fl with
 | ret u=>
  obtain ⟨v,σ',H',J,rv,q⟩:=hs;exact fin J rv q
 | next=>
  obtain ⟨σ',H',J,q⟩:=hs;exact fin (v:=V.non) (u:=Value.none) J rfl q
 | brk=>
  obtain ⟨_,_,_,q⟩:=hs;exact False.elim q
 | cont=>
  obtain ⟨_,_,_,q⟩:=hs;exact False.elim q
section
variable {X:Cx} {x:Str} {p pos:Pos} {e:Expr} {es:List Expr} {t:TA} {id T:String} {r:List V→Hp→VK→Prop}
def tCB (r:List V→Hp→VK→Prop) (t:TA):TE:=λσ H Q=>t σ H λvs H1=>r vs H1 Q
theorem Kp (hc:cm X (.builtin id) r) (hg:Gl X x) (hm:X.mg x=none) (hv:bootBuiltins x=some (.builtin id)) (ha:PA X (e::es) t) (hn:x≠"__name__":=by decide) (hdb:(x==("__debug__":Str))=false:=by decide)
  (he:starEach (e::es) X.env=(false,eval e X.env)::starEach es X.env:=by rfl) (hpl:(backTo pos (starEach es X.env)).any (·.1)=false:=by rfl):PE X (.Call (.Name x p) (e::es) [] pos) (tCB r t):=by
 intro pins s σ H Q I h;refine wpAny_Call_Name_kw (kx I hg hm hv ?_ hn hdb);exact PyProof.Rows.callWith_builtin1 (thn (ha pos pins s σ H _ I h) λus s1 ⟨vs,H1,I1,r1,q1⟩=>hc pins s1 σ H1 vs us Q I1 r1 q1) he hpl
theorem Fn (hc:cm X (.type T) r) (hg:Gl X x) (hm:X.mg x=none) (hv:bootBuiltins x=some (.type T)) (ha:PA X (e::es) t) (hn:x≠"__name__":=by decide) (hdb:(x==("__debug__":Str))=false:=by decide)
  (he:starEach (e::es) X.env=(false,eval e X.env)::starEach es X.env:=by rfl) (hpl:(backTo pos (starEach es X.env)).any (·.1)=false:=by rfl):PE X (.Call (.Name x p) (e::es) [] pos) (tCB r t):=by
 intro pins s σ H Q I h;refine wpAny_Call_Name_kw (kx I hg hm hv ?_ hn hdb);exact PyProof.Rows.callWith_type1 (thn (ha pos pins s σ H _ I h) λus s1 ⟨vs,H1,I1,r1,q1⟩=>hc pins s1 σ H1 vs us Q I1 r1 q1) he hpl
end
end L2
namespace HT
open PySem PyProof.Rows
section
open PySem.SeqAt
open PySem.AutoSeq1 (wpAny_loadPart')
open PySem.MeetsSeq PySem.MeetsSeq2 PySem.MeetsSeq3
end
section
variable {prog:Program} {w:World} {A:Around} {E:Value→Shared→Prop} {s:Shared}
theorem Mw {t b:Addr} {vs ws:List Value} {Q:Value→Shared→Prop} (ht:IsTup s.heap t vs.toArray) (hb:IsTup s.heap b ws.toArray) (hv:vs≠[])
  (h1:ws=[]→Q (.ref t) s) (h2:ws≠[]→Q (.ref s.heap.objs.size) { s with heap:=s.heap.push { cls:=.type "tuple",data:=.seq (vs++ws).toArray } })
  (hsz:vs.length+ws.length≤sizeLine):wpAny (model prog w) A (binaryOp .Add (.ref t) (.ref b)) Q E s:=by
 obtain ⟨⟨cls,dd,data,sl⟩,ho,hc,n,hd⟩:=id ht;obtain ⟨⟨cls2,dd2,data2,sl2⟩,ho2,hc2,n2,hd2⟩:=id hb;simp only at hc hd hc2 hd2;subst hc hd hc2 hd2;have e:vs.toArray++ws.toArray=(vs++ws).toArray:=by simp
 by_cases hw:ws=[]
 ·exact concat_meets ⟨_,ho,rfl⟩ ⟨_,ho2,rfl⟩ noFill_tuple_add seq_tuple_add PySem.F.slot_tuple_add PySem.F.entry_tuple_add (PySem.F.args_tuple_add_2 _ _)
   (tuple_addW1 t b vs.toArray ws.toArray n n2 dd dd2 sl sl2 (by simpa using hv) (by simp[hw])) ⟨ho,ho2,h1 hw⟩
 ·refine concat_meets ⟨_,ho,rfl⟩ ⟨_,ho2,rfl⟩ noFill_tuple_add seq_tuple_add PySem.F.slot_tuple_add PySem.F.entry_tuple_add (PySem.F.args_tuple_add_2 _ _)
   (tuple_addW2 t b vs.toArray ws.toArray n n2 dd dd2 sl sl2 (by simpa using hv) (by simpa using hw) (by rw[aae,aae];exact hsz)) ⟨ho,ho2,?_⟩
  rw[e];exact h2 hw
noncomputable def sIx (n d:Nat):Option Int→Nat
 | none=>d
 | some v=>if v < 0 then (v+(n:Int)).toNat else min v.toNat n
theorem zw (n d:Nat):sIx n d none=d:=rfl
theorem Ds (n d k:Nat):sIx n d (some (k:Int))=min k n:=by
 show (if (k:Int) < 0 then ((k:Int)+(n:Int)).toNat else min (k:Int).toNat n)=min k n
 rw[if_neg (by omega),ad7]
theorem Bm (n d:Nat) (hd:d≤n) (o:Option Int):sIx n d o≤n:=by
 cases o with
 | none=>exact hd
 | some v=>
  show (if v < 0 then (v+(n:Int)).toNat else min v.toNat n)≤n
  by_cases hv:v < 0
  ·rw[if_pos hv];omega
  ·rw[if_neg hv];exact Nat.min_le_right _ _
theorem E1 (v:Int) (n d:Nat):(if v < 0 then max (v+(n:Int)) 0 else min v (n:Int))=((sIx n d (some v):Nat):Int):=by
 show (if v < 0 then max (v+(n:Int)) 0 else min v (n:Int))=(((if v < 0 then (v+(n:Int)).toNat else min v.toNat n):Nat):Int)
 by_cases hv:v < 0
 ·simp only[if_pos hv];omega
 ·simp only[if_neg hv];omega
theorem Az (lo hi:Option Int) (n:Nat):Builtin.Slice.sliceAdjust lo hi 1 (n:Int)=(((sIx n 0 lo:Nat):Int),((sIx n n hi:Nat):Int)):=by
 have h1:¬((1:Int) < 0):=by omega
 unfold Builtin.Slice.sliceAdjust;simp only[h1,if_false];refine Prod.ext ?_ ?_
 ·cases lo with
  | none=>rfl
  | some v=>exact E1 v n 0
 ·cases hi with
  | none=>rfl
  | some v=>exact E1 v n n
theorem Be (i j:Nat):Builtin.Slice.slicePlaces (i:Int) (j:Int) 1=j - i:=by
 unfold Builtin.Slice.slicePlaces;have h1:(1:Int) > 0:=by omega
 simp only[h1,if_true,Int.ediv_one];split <;> omega
theorem pb {v:Value} {o:Option Int} {Q:Option Int→Shared→Prop} (p:IsPart v o) (h:Q o s):wpAny (model prog w) A (Builtin.Slice.slicePartIndex v) Q E s:=by
 cases p with
 | none=>exact slicePart_none h
 | int i t=>exact slicePart_int h
theorem gs {sl:Addr} {vl vu:Value} {lo hi:Option Int} {n:Nat} {Q:Int×Int×Nat→Shared→Prop} (hs:s.heap.IsSliceOf sl vl vu .none) (pl:IsPart vl lo) (pu:IsPart vu hi)
  (h:Q (((sIx n 0 lo:Nat):Int),1,sIx n n hi - sIx n 0 lo) s):wpAny (model prog w) A (Builtin.Slice.sliceApplied (.ref sl) (pure (n:Int))) Q E s:=by
 obtain ⟨os,hos,hcs,hds⟩:=id hs;unfold Builtin.Slice.sliceApplied Builtin.Slice.sliceFields;refine wpAny_bind (wpAny_bind (wpAny_field hos hds (x:=vl) rfl (wpAny_bind (wpAny_field hos hds (x:=vu) rfl (wpAny_bind (wpAny_field hos hds (x:=.none) rfl (wpAny_pure ?_)))))));refine wpAny_bind (slicePart_none ?_);show wpAny _ _ (if ((1:Int)==0)=true then _ else _) _ _ s
 rw[if_neg (by decide)];refine wpAny_bind (pb pl (wpAny_bind (pb pu (wpAny_bind (wpAny_pure ?_)))));show wpAny _ _ (match Builtin.Slice.sliceAdjust lo hi 1 (n:Int) with | (lo,hi)=>pure (lo,(1:Int),Builtin.Slice.slicePlaces lo hi 1)) _ _ s
 rw[Az lo hi n];show wpAny _ _ (pure (((sIx n 0 lo:Nat):Int),(1:Int),Builtin.Slice.slicePlaces ((sIx n 0 lo:Nat):Int) ((sIx n n hi:Nat):Int) 1)) _ _ s
 rw[Be];exact wpAny_pure h
theorem Ia (xs:Array Value) (i k:Nat):((abf k).filterMap λ(m:Nat)=>xs[((i:Int)+(m:Int)*1).toNat]?).toArray=((xs.toList.drop i).take k).toArray:=by
 have e:(λ(m:Nat)=>xs[((i:Int)+(m:Int)*1).toNat]?)=λm=>xs[i+m]?:=by
  funext m
  have:((i:Int)+(m:Int)*1).toNat=i+m:=by omega
  rw[this]
 rw[e];have:=pick_run xs i k;rw[List.filterMap_map] at this;have e2:((λx=>xs[x]?) ∘ λx=>i+x)=λm=>xs[i+m]?:=rfl;rw[e2] at this;rw[this]
theorem me {t sl:Addr} {items:Array Value} {vl vu:Value} {lo hi:Option Int} {Q:Value→Shared→Prop} (ht:IsTup s.heap t items) (hs:s.heap.IsSliceOf sl vl vu .none) (pl:IsPart vl lo) (pu:IsPart vu hi)
  (hw:¬(sIx items.size 0 lo=0∧sIx items.size items.size hi=items.size))
  (h:Q (.ref s.heap.objs.size) { s with heap:=s.heap.push { cls:=.type "tuple",data:=.seq ((items.toList.drop (sIx items.size 0 lo)).take (sIx items.size items.size hi - sIx items.size 0 lo)).toArray } })
  (hsz:items.size≤sizeLine):wpAny (model prog w) A (getItem (.ref t) (.ref sl)) Q E s:=by
 have htake:sizeOk (.seq ((items.toList.drop (sIx items.size 0 lo)).take (sIx items.size items.size hi - sIx items.size 0 lo)).toArray):=by
  show ((items.toList.drop (sIx items.size 0 lo)).take (sIx items.size items.size hi - sIx items.size 0 lo)).toArray.size≤sizeLine
  rw[aae,aaa,aaf,abn];omega
 have hj:sIx items.size items.size hi≤items.size:=Bm _ _ (aa3 _) hi;obtain ⟨os,hos,hcs,hds⟩:=id hs;have hTs:s.TypeIs (.ref sl) "slice":=⟨os,hos,hcs⟩;unfold getItem;try with_reducible refine wpAny_holding ?_
 first | refine wpAny_bind (wpAny_pure ?_) | skip
 refine wpAny_bind (wpAny_sequenceKey ht.typeIs (by decide) ?_);refine wpAny_bind (wpAny_callSpecial?_slot (name:=Str.ofString "__getitem__") ht.typeIs PyProof.Rows.slot_tuple_getitem
  (wpAny_call_entry PyProof.Rows.slot_tuple_getitem ht.typeIs entry_tuple_getitem ?_ (args_tuple_getitem _ _)))
 show wpAny _ _ (Builtin.Tuple.tupleItemsOf (.ref t) >>=_) _ _ s
 refine wpAny_bind (tupleItemsOf_ ht ?_);refine wpAny_bind (wpAny_typeOf hTs ?_);rw[if_pos (by decide)];refine wpAny_bind (gs hs pl pu ?_);have hno:¬((((sIx items.size 0 lo:Nat):Int)==0&&(1:Int)==1&&(sIx items.size items.size hi - sIx items.size 0 lo)==items.size)=true):=by
  intro q;rw[abb,abb] at q;have q1:((sIx items.size 0 lo:Nat):Int)=0:=eq_of_beq q.1.1;have q2:sIx items.size items.size hi - sIx items.size 0 lo=items.size:=eq_of_beq q.2;exact hw ⟨by omega,by omega⟩
 show wpAny _ _ (if (((sIx items.size 0 lo:Nat):Int)==0&&(1:Int)==1&&(sIx items.size items.size hi - sIx items.size 0 lo)==items.size)=true then _ else _) _ _ s
 rw[if_neg hno,Ia];first
  | exact wpAny_bind (m:=Builtin.Tuple.tupleExact _) (wpAny_newObj_type (wpAny_pure ⟨_,rfl,wpAny_pure h⟩) htake)
  | exact wpAny_bind (m:=Builtin.Tuple.tupleExact _) (wpAny_newObj_type (wpAny_bind (wpAny_pure (wpAny_pure ⟨_,rfl,wpAny_pure h⟩))) htake)
  | exact wpAny_bind (wpAny_bind (m:=Builtin.Tuple.tupleExact _) (wpAny_newObj_type (wpAny_pure (wpAny_pure ⟨_,rfl,wpAny_pure h⟩)) htake))
  | exact wpAny_bind (wpAny_bind (m:=Builtin.Tuple.tupleExact _) (wpAny_newObj_type (wpAny_pure ⟨_,rfl,wpAny_pure h⟩) htake))
end
end HT
namespace L2
open PySem PySem.Spec PyProof.Rows
abbrev TO:=St→Hp→(Option Int→Hp→Prop)→Prop
def PO (X:Cx) (e:Option Expr) (t:TO):Prop:=
 ∀(pins:List (Addr×Obj)) (s:Shared) (σ:St) (H:Hp) (Q:Option Int→Hp→Prop),Inv X pins σ H s→t σ H Q→
  wpAny (model X.prog X.w) X.A (evalPart e X.env) (λu s'=>∃o H',Inv X pins σ H' s'∧IsPart u o∧Q o H') X.xe s
def Ej:TO:=λ_ H Q=>Q none H
def Jj (t:TE):TO:=λσ H Q=>t σ H λx H1=>∃i,x=.int i∧Q (some i) H1
theorem intsAre_of {ns:List Int}:∀{us:List Value},Vals (ns.map V.int) us→IntsAre us ns:=by
 induction ns with
 | nil=>intro us r;rw[acg] at r;cases r;exact .nil
 | cons n ns ih=>
  intro us r;rw[aao] at r;cases r with
  | cons r1 r2=>
   obtain ⟨t,e⟩:=r1;subst e;exact .cons n t (ih r2)
section
variable {X:Cx} {e:Expr} {te:TE} {lo hi:Option Expr} {tl th:TO} {pos p2:Pos}
theorem M6:PO X none Ej:=by
 intro pins s σ H Q I h;rw[evalPart_none];exact wpAny_pure ⟨none,H,I,.none,h⟩
theorem L7 (h:PE X e te):PO X (some e) (Jj te):=by
 intro pins s σ H Q I hw;rw[evalPart_some];refine thn (h pins s σ H _ I hw) λu s1 ⟨x,H1,I1,r1,q1⟩=>?_;obtain ⟨i,rfl,q⟩:=q1;obtain ⟨t,rfl⟩:=r1;exact ⟨some i,H1,I1,.int i t,q⟩
def SlR (X:Cx) (r:V→Option Int→Option Int→Hp→VK→Prop):Prop:=
 ∀(pins:List (Addr×Obj)) (s:Shared) (σ:St) (H:Hp) (x:V) (v vl vu:Value) (lo hi:Option Int) (sl:Addr) (Q:VK),Inv X pins σ H s→RelV x v→s.heap.IsSliceOf sl vl vu .none→IsPart vl lo→IsPart vu hi→r x lo hi H Q→
  ∃T id,typeLookup (.type T) "__getitem__"=pure (some (.builtin id))∧s.TypeIs v T∧wpAny (model X.prog X.w) X.A (getItem v (.ref sl)) (EP X pins σ Q) X.xe s
def tSl (r:V→Option Int→Option Int→Hp→VK→Prop) (te:TE) (tl th:TO):TE:=λσ H Q=>te σ H λx H1=>tl σ H1 λl H2=>th σ H2 λu H3=>r x l u H3 Q
theorem J0 {r:V→Option Int→Option Int→Hp→VK→Prop} (hr:SlR X r) (he:PE X e te) (hl:PO X lo tl) (hu:PO X hi th):PE X (.Subscript e (.Slice lo hi none p2) pos) (tSl r te tl th):=by
 intro pins s σ H Q I h;refine Subscript_ (thn (he pins s σ H _ I h) λv s1 ⟨x,H1,I1,r1,q1⟩=>?_);refine wpAny_Slice (thn (hl pins s1 σ H1 _ I1 q1) λvl s2 ⟨l,H2,I2,pl,q2⟩=>thn (hu pins s2 σ H2 _ I2 q2) λvu s3 ⟨u,H3,I3,pu,q3⟩=>?_);rw[evalPart_none];refine wpAny_pure ?_;have I4:Inv X pins σ H3 { s3 with heap:=s3.heap.push { cls:=.type "slice",data:=.fields #[vl,vu,.none] } }:=I3.kept (t':=s3.toks) λb ob q=>Heap.get?_push_of_some _ q;obtain ⟨T,id,hT,ht,hg⟩:=hr pins { s3 with heap:=s3.heap.push { cls:=.type "slice",data:=.fields #[vl,vu,.none] } } σ H3 x v vl vu l u s3.heap.objs.size Q I4 r1 (Heap.IsSliceOf.new ..) pl pu q3;show wpAny (model X.prog X.w) X.A (subscriptTail e (.Slice lo hi none p2) v (.ref s3.heap.objs.size)) (EP X pins σ Q) X.xe { s3 with heap:=s3.heap.push { cls:=.type "slice",data:=.fields #[vl,vu,.none] } }
 exact tail_any (ops:=[.ref s3.heap.objs.size,v]) ht hT hg (by with_unfolding_all rfl)
noncomputable def ck (xs:List V) (lo hi:Option Int):List V:=(xs.drop (HT.sIx xs.length 0 lo)).take (HT.sIx xs.length xs.length hi - HT.sIx xs.length 0 lo)
theorem nv (xs:List V) (lo hi:Option Int):(ck xs lo hi).length≤xs.length:=by
 unfold ck;rw[aaa,aaf];omega
def rSlT (K:PySem.W.Frag):V→Option Int→Option Int→Hp→VK→Prop:=λx lo hi H Q=>∃a xs,x=.ref a∧SqT K H a xs∧
 ¬(HT.sIx xs.length 0 lo=0∧HT.sIx xs.length xs.length hi=xs.length)∧∀p,H p=none→Q (.ref p) (upd H p (.tup (ck xs lo hi)))
theorem sl_tup:SlR X (rSlT X.K):=by
 intro pins s σ H x v vl vu lo hi sl Q I rx hs pl pu h;obtain ⟨a,xs,rfl,hx,hw,q⟩:=h;cases rx
 obtain ⟨its,r,ht,hz⟩:=I.tuple hx;have hlen:its.toArray.size=xs.length:=by rw[aae];exact r.length.symm
 refine ⟨"tuple",_,PyProof.Rows.slot_tuple_getitem.lookup,ht.typeIs,?_⟩;refine HT.me ht hs pl pu (by rw[hlen];exact hw) ?_ (by rw[hlen];exact hz);rw[hlen];refine ⟨.ref s.heap.objs.size,_,I.laid (t':=s.toks) (o:=.tup (ck xs lo hi)) (λb ob q=>Heap.get?_push_of_some _ q) (aa3 _) ?_,rfl,q _ (I.hok.fresh (aa3 _))⟩;exact ⟨aak (nv xs lo hi) hz,_,(r.drop (HT.sIx xs.length 0 lo)).take (HT.sIx xs.length xs.length hi - HT.sIx xs.length 0 lo),⟨_,Heap.get?_push_size _ rfl,rfl,_,rfl,rfl⟩⟩
def rCatT (K:PySem.W.Frag):R2:=λx y H Q=>∃a b xs ys,x=.ref a∧y=.ref b∧SqT K H a xs∧SqT K H b ys∧xs≠[]∧xs.length+ys.length≤sizeLine∧
 (ys=[]→Q (.ref a) H)∧(ys≠[]→∀p,H p=none→Q (.ref p) (upd H p (.tup (xs++ys))))
theorem Vals.og {xs:List V} {us:List Value} (r:Vals xs us):us=[]↔xs=[]:=by
 cases r with
 | nil=>simp
 | cons _ _=>simp
theorem Mh:OpR X (binaryOp .Add) (rCatT X.K):=by
 intro pins s σ H x y v u Q I rx ry h;obtain ⟨a,b,xs,ys,rfl,rfl,ha,hb,hx,hz,q1,q2⟩:=h;cases rx
 cases ry
 obtain ⟨its,r1,p1,_⟩:=I.tuple ha;obtain ⟨its2,r2,p2,_⟩:=I.tuple hb;refine HT.Mw p1 p2 (λz=>hx (r1.og.mp z)) (λz=>⟨.ref a,H,I,rfl,q1 (r2.og.mp z)⟩) (λz=>?_) (by rw[←r1.length,←r2.length];exact hz);refine ⟨.ref s.heap.objs.size,_,I.laid (t':=s.toks) (o:=.tup (xs++ys)) (λb ob q=>Heap.get?_push_of_some _ q) (aa3 _) ?_,rfl,q2 (λw=>z (r2.og.mpr w)) _ (I.hok.fresh (aa3 _))⟩;exact ⟨by rw[aa4];exact hz,_,r1.append r2,⟨_,Heap.get?_push_size _ rfl,rfl,_,rfl,rfl⟩⟩
end
noncomputable def ixN (n:Nat) (i:Int):Option Nat:=if 0≤i then (if i < n then some i.toNat else none) else if -(n:Int)≤i then some (i+n).toNat else none
noncomputable def atI {α:Type} (xs:List α) (i:Int):Option α:=(ixN xs.length i).bind λj=>xs[j]?
theorem wz {n:Nat} {i:Int} {j:Nat} (h:ixN n i=some j):seqIndex? i n=some j∧j < n∧-(n:Int)≤i∧i < n:=by
 unfold ixN at h;by_cases h0:0≤i
 ·rw[if_pos h0] at h;by_cases h1:i < n
  ·rw[if_pos h1] at h;have e:i.toNat=j:=aac h;exact ⟨by rw[seqIndex_of h0 h1,e],by omega,by omega,h1⟩
  ·rw[if_neg h1] at h;cases h
 ·rw[if_neg h0] at h;by_cases h1:-(n:Int)≤i
  ·rw[if_pos h1] at h;have e:(i+n).toNat=j:=aac h;exact ⟨by rw[seqIndex_neg (by omega) h1,e],by omega,h1,by omega⟩
  ·rw[if_neg h1] at h;cases h
theorem yd {α:Type} {xs:List α} {i:Int} {v:α} (h:atI xs i=some v):∃j,seqIndex? i xs.length=some j∧xs[j]?=some v∧j < xs.length∧-(xs.length:Int)≤i∧i < xs.length:=by
 unfold atI at h;cases e:ixN xs.length i with
 | none=>rw[e] at h;cases h
 | some j=>
  rw[e] at h;obtain ⟨h1,h2,h3,h4⟩:=wz e;exact ⟨j,h1,h,h2,h3,h4⟩
theorem ay {α:Type} {xs:List α} {j:Nat} {v:α} (h:xs[j]?=some v):atI xs (j:Int)=some v:=by
 have hj:j < xs.length:=(List.getElem?_eq_some_iff.mp h).1;have e:ixN xs.length (j:Int)=some j:=by
  unfold ixN;rw[if_pos (by omega),if_pos (by omega)];simp
 unfold atI;rw[e];exact h
def Mt (b:Expr):Prop:=∀o i,subscripted b false o i=operate [o,i] (getItem o i)
def IxR (X:Cx) (r:R2):Prop:=
 ∀(value slice:Expr) (pins:List (Addr×Obj)) (s:Shared) (σ:St) (H:Hp) (x y:V) (v u:Value) (Q:VK),Inv X pins σ H s→RelV x v→RelV y u→r x y H Q→
  subscripted slice false v u=operate [v,u] (getItem v u)→wpAny (model X.prog X.w) X.A (subscriptTail value slice v u) (EP X pins σ Q) X.xe s
def MtR (X:Cx) (id:String) (r:V→List V→Hp→VK→Prop):Prop:=
 ∀(pins:List (Addr×Obj)) (s:Shared) (σ:St) (H:Hp) (x:V) (xs:List V) (v:Value) (us:List Value) (Q:VK),Inv X pins σ H s→RelV x v→Vals xs us→r x xs H Q→
  wpAny (model X.prog X.w) X.A (call (.builtin id) (v::us)) (EP X pins σ Q) X.xe s
section
variable {X:Cx} {a b:Expr} {ta tb:TE} {pos:Pos}
theorem pe_ix {r:R2} (hr:IxR X r) (ha:PE X a ta) (hb:PE X b tb) (hs:Mt b):PE X (.Subscript a b pos) (tOp r ta tb):=by
 intro pins s σ H Q I h;exact Subscript_ (binT ha hb I h λv u s2 x y H2 I2 rx ry q=>hr a b pins s2 σ H2 x y v u Q I2 rx ry q (hs _ _))
def sm (K:PySem.W.Frag):R2:=λx y H Q=>∃p xs i v,x=.ref p∧y=.int i∧SqL K H p xs∧atI xs i=some v∧Q v H
def rIxT (K:PySem.W.Frag):R2:=λx y H Q=>∃p xs i v,x=.ref p∧y=.int i∧SqT K H p xs∧atI xs i=some v∧Q v H
def rIxS:R2:=λx y H Q=>∃z i c,x=.str z∧y=.int i∧z.length≤sizeLine∧atI z.cps.toList i=some c∧Q (.str ⟨#[c]⟩) H
theorem E4:IxR X (sm X.K):=by
 intro value slice pins s σ H x y v u Q I rx ry h hs;obtain ⟨p,xs,i,z,rfl,rfl,hq,he,q⟩:=h;cases rx
 obtain ⟨t,rfl⟩:=ry;obtain ⟨its,r,pl,hz⟩:=I.list hq;obtain ⟨j,h1,h2,h3,h4,h5⟩:=yd he;obtain ⟨w,ew,rw'⟩:=r.get h2;have hl:=r.length;have hn:=m4;have fin:EP X pins σ Q w s:=⟨z,H,I,rw',q⟩;by_cases h0:0≤i
 ·have hj:i.toNat=j:=by
   rw[seqIndex_of h0 h5] at h1;exact aac h1
  exact item_listR pl.isList h0 (by omega) (by rw[hj];simpa using ew) fin hs
 ·have hj:(i+(its.toArray.size:Int)).toNat=j:=by
   rw[seqIndex_neg (by omega) h4] at h1;rw[aae,←hl];exact aac h1
  exact subscriptTail_builtinR (x:=w) pl.isList.typeIs slot_list_getitem.lookup
   (wpAny_getItem_list_neg (Q:=λr s'=>r=w∧EP X pins σ Q r s') pl.isList (by omega) (by rw[aae] <;> omega) (by omega) (by rw[hj];simpa using ew) ⟨rfl,fin⟩) hs
theorem ig:IxR X (rIxT X.K):=by
 intro value slice pins s σ H x y v u Q I rx ry h hs;obtain ⟨p,xs,i,z,rfl,rfl,hq,he,q⟩:=h;cases rx
 obtain ⟨t,rfl⟩:=ry;obtain ⟨its,r,pl,hz⟩:=I.tuple hq;obtain ⟨j,h1,h2,h3,h4,h5⟩:=yd he;obtain ⟨w,ew,rw'⟩:=r.get h2;have hl:=r.length;have hn:=m4;have fin:EP X pins σ Q w s:=⟨z,H,I,rw',q⟩;exact subscriptTail_builtinR (x:=w) pl.typeIs slot_tuple_getitem.lookup
  (getItem_tuple (j:=j) (Q:=λr s'=>r=w∧EP X pins σ Q r s') pl (by omega) (by omega) (by rw[aae,←hl];exact h1) (by simpa using ew) ⟨rfl,fin⟩) hs
theorem m6:IxR X rIxS:=by
 intro value slice pins s σ H x y v u Q I rx ry h hs;obtain ⟨z,i,c,rfl,rfl,hz,he,q⟩:=h;obtain ⟨t,rfl⟩:=rx;obtain ⟨t',rfl⟩:=ry;obtain ⟨j,h1,h2,h3,h4,h5⟩:=yd he;have hl:z.cps.toList.length=z.length:=by simp[Str.length]
 rw[hl] at h1 h4 h5;have hn:=m4;exact tail_any (typeIs_str s z t) slot_str_getitem.lookup (getItem_str (c:=c) (by
  have e1:decide (i < -(2 ^ 63:Int))=false:=decide_eq_false (by omega);have e2:decide (i≥2 ^ 63)=false:=decide_eq_false (by omega);rw[e1,e2,adv]) (by rw[h1];simpa using h2) ⟨.str ⟨#[c]⟩,H,I.tok _,⟨_,rfl⟩,q⟩) hs
theorem Bv (its:List Value) (n j:Nat) (u:Value):Obj.mapSeq (·.setIfInBounds j u) { cls:=.type "list",data:=.seq its.toArray n }={ cls:=.type "list",data:=.seq (its.set j u).toArray n }:=by
 simp[Obj.mapSeq]
theorem Inv.lst {pins:List (Addr×Obj)} {σ:St} {H:Hp} {s:Shared} {p:Addr} {xs:List V} (I:Inv X pins σ H s) (h:H p=some (.lst xs)):
  ∃(its:List Value) (n:Nat),Vals xs its∧s.heap.get? p=some { cls:=.type "list",data:=.seq its.toArray n }∧xs.length≤sizeLine:=by
 obtain ⟨z,its,n,r,e⟩:=I.hok p _ h;exact ⟨its,n,r,e,z⟩
theorem Inv.lstUpd {pins:List (Addr×Obj)} {σ:St} {H:Hp} {s:Shared} {p:Addr} {xs ys:List V} {its its':List Value} {n n':Nat} {f:Obj→Obj} (I:Inv X pins σ H s) (h:H p=some (.lst xs))
  (ho:s.heap.get? p=some { cls:=.type "list",data:=.seq its.toArray n }) (hf:f { cls:=.type "list",data:=.seq its.toArray n }={ cls:=.type "list",data:=.seq its'.toArray n' }) (r:Vals ys its') (hz:ys.length≤sizeLine) (t:Nat):
  Inv X pins σ (upd H p (.lst ys)) { s with heap:=s.heap.update p f,toks:=t }:=by
 have e:(s.heap.update p f).get? p=some { cls:=.type "list",data:=.seq its'.toArray n' }:=by
  rw[Heap.get?_update_self f ho (by rw[hf] <;> rfl),hf]
 refine I.write (x:=p) (e:=p) (by rw[h];trivial) (.inl rfl) (λb u hb q=>(Heap.get?_update_other _ _ (Ne.symm hb)).trans q) ⟨_,e⟩ ?_;exact ⟨hz,its',n',r,e⟩
def Ka:V→V→V→Hp→(Hp→Prop)→Prop:=λo i v H Q=>∃p xs k j,o=.ref p∧i=.int k∧H p=some (.lst xs)∧ixN xs.length k=some j∧Q (upd H p (.lst (xs.set j v)))
theorem set_list:PSet X Ka:=by
 intro pins s σ H o i v ov iv u Q I ro ri rv h;obtain ⟨p,xs,k,j,rfl,rfl,hp,hj,q⟩:=h;cases ro
 obtain ⟨t,rfl⟩:=ri;obtain ⟨its,n,r,ho,hz⟩:=I.lst hp;obtain ⟨h1,h2,h3,h4⟩:=wz hj;have hl:=r.length;have hn:=m4;have I':Inv X pins σ (upd H p (.lst (xs.set j v))) { s with heap:=s.heap.update p (Obj.mapSeq (·.setIfInBounds j u)) }:=
  I.lstUpd hp ho (Bv its n j u) (r.set rv j) (by rw[acf];exact hz) s.toks
 by_cases h0:0≤k
 ·have hk:k.toNat=j:=by
   rw[seqIndex_of h0 h4] at h1;exact aac h1
  exact PySem.W.ki_setAt ho h0 (by omega) (by rw[aae,←hl];exact h4) (by rw[hk];exact ⟨_,I',q⟩)
 ·have hk:(k+(its.toArray.size:Int)).toNat=j:=by
   rw[seqIndex_neg (by omega) h3] at h1;rw[aae,←hl];exact aac h1
  exact PySem.W.ki_setBack ho (by omega) (by rw[aae,←hl];exact h3) (by omega) (by rw[hk];exact ⟨_,I',q⟩)
theorem xa (lo hi:Option Int) (n:Nat):(sliceBounds lo hi none n).1=((HT.sIx n 0 lo:Nat):Int)∧(sliceBounds lo hi none n).2.1=((HT.sIx n n hi:Nat):Int)∧(sliceBounds lo hi none n).2.2=1:=by
 refine ⟨?_,?_,rfl⟩
 ·cases lo with
  | none=>simp[sliceBounds,HT.sIx]
  | some i=>
   simp only[sliceBounds,HT.sIx,ade,show (1:Int) > 0 by decide,if_true];by_cases h:i < 0
   ·simp only[h,if_true] <;> omega
   ·simp only[h,if_false] <;> omega
 ·cases hi with
  | none=>simp[sliceBounds,HT.sIx]
  | some i=>
   simp only[sliceBounds,HT.sIx,ade,show (1:Int) > 0 by decide,if_true];by_cases h:i < 0
   ·simp only[h,if_true] <;> omega
   ·simp only[h,if_false] <;> omega
theorem sd (its:List Value) (lo hi:Option Int):slicePick its.toArray lo hi none=((its.drop (HT.sIx its.length 0 lo)).take (HT.sIx its.length its.length hi - HT.sIx its.length 0 lo)).toArray:=by
 obtain ⟨h1,h2,h3⟩:=xa lo hi its.toArray.size;unfold slicePick;rw[h1,h2,h3];simp only[sliceRange_one,pick_run,aae] <;> rfl
def rSlL (K:PySem.W.Frag):V→Option Int→Option Int→Hp→VK→Prop:=λx lo hi H Q=>∃a xs,x=.ref a∧SqL K H a xs∧∀p,H p=none→Q (.ref p) (upd H p (.lst (ck xs lo hi)))
theorem K8:SlR X (rSlL X.K):=by
 intro pins s σ H x v vl vu lo hi sl Q I rx hs pl pu h;obtain ⟨a,xs,rfl,hx,q⟩:=h;cases rx
 obtain ⟨its,r,ht,hz⟩:=I.list hx;have hlen:=r.length;refine ⟨"list",_,slot_list_getitem.lookup,ht.isList.typeIs,?_⟩;refine wpAny_getItem_list_slice ht.isList hs pl pu .none (by simp) ?_ (by rw[aae] <;> omega);rw[sd,←hlen];refine ⟨.ref s.heap.objs.size,_,I.laid (t':=s.toks) (o:=.lst (ck xs lo hi)) (λb ob q=>Heap.get?_push_of_some _ q) (aa3 _) ?_,rfl,q _ (I.hok.fresh (aa3 _))⟩;exact ⟨aak (nv xs lo hi) hz,_,0,(r.drop (HT.sIx xs.length 0 lo)).take (HT.sIx xs.length xs.length hi - HT.sIx xs.length 0 lo),Heap.get?_push_size _ rfl⟩
noncomputable def ni:V→Bool
 | .non=>true
 | .bl _=>true
 | .int _=>true
 | .str _=>true
 | _=>false
noncomputable def eqV:V→V→Bool
 | .non,.non=>true
 | .bl a,.bl b=>a==b
 | .bl a,.int b=>(if a then 1 else 0)==b
 | .int a,.bl b=>a==(if b then 1 else 0)
 | .int a,.int b=>a==b
 | .str a,.str b=>a==b
 | _,_=>false
theorem eqAt_V {A:Around} {s:Shared} {y x:V} {u v:Value} (ry:RelV y u) (rx:RelV x v) (fy:ni y=true) (fx:ni x=true):SeqAt.EqAt A s u v (eqV y x):=by
 cases y with
 | non=>
  cases ry
  cases x with
  | non=>cases rx;exact SeqAt.EqAt.same _
  | bl b=>cases rx;exact SeqAt.EqAt.none_bool b
  | int b=>obtain ⟨t,rfl⟩:=rx;exact SeqAt.EqAt.none_int b t
  | str b=>obtain ⟨t,rfl⟩:=rx;exact SeqAt.EqAt.none_str b t
  | _=>exact absurd (show false=true from fx) aan
 | bl a=>
  cases ry
  cases x with
  | non=>cases rx;exact SeqAt.EqAt.bool_none a
  | bl b=>cases rx;exact SeqAt.EqAt.bool_bool a b
  | int b=>obtain ⟨t,rfl⟩:=rx;exact SeqAt.EqAt.bool_int a b t
  | str b=>obtain ⟨t,rfl⟩:=rx;exact SeqAt.EqAt.bool_str a b t
  | _=>exact absurd (show false=true from fx) aan
 | int a=>
  obtain ⟨t',rfl⟩:=ry;cases x with
  | non=>cases rx;exact SeqAt.EqAt.int_none a t'
  | bl b=>cases rx;exact SeqAt.EqAt.int_bool a t' b
  | int b=>obtain ⟨t,rfl⟩:=rx;exact SeqAt.EqAt.int_int a t' b t
  | str b=>obtain ⟨t,rfl⟩:=rx;exact SeqAt.EqAt.int_str a t' b t
  | _=>exact absurd (show false=true from fx) aan
 | str a=>
  obtain ⟨t',rfl⟩:=ry;cases x with
  | non=>cases rx;exact SeqAt.EqAt.str_none a t'
  | bl b=>cases rx;exact SeqAt.EqAt.str_bool a t' b
  | int b=>obtain ⟨t,rfl⟩:=rx;exact SeqAt.EqAt.str_int a t' b t
  | str b=>obtain ⟨t,rfl⟩:=rx;exact SeqAt.EqAt.str_str a t' b t
  | _=>exact absurd (show false=true from fx) aan
 | _=>exact absurd (show false=true from fy) aan
noncomputable def eqU (x:V) (u:Value):Bool:=match u with
 | .none=>eqV .non x
 | .bool b=>eqV (.bl b) x
 | .int i _=>eqV (.int i) x
 | .str z _=>eqV (.str z) x
 | _=>false
theorem Ha {x y:V} {u:Value} (r:RelV y u) (f:ni y=true):eqU x u=eqV y x:=by
 cases y with
 | non=>cases r;rfl
 | bl b=>cases r;rfl
 | int i=>obtain ⟨t,rfl⟩:=r;rfl
 | str z=>obtain ⟨t,rfl⟩:=r;rfl
 | _=>exact absurd (show false=true from f) aan
theorem mv {x:V}:∀{xs:List V} {us:List Value},Vals xs us→xs.all ni=true→us.any (eqU x)=xs.any λy=>eqV y x
 | _,_,.nil,_=>rfl
 | y::xs,u::us,.cons r t,f=>by
  rw[List.all_cons,abb] at f;rw[aca,aca,Ha r f.1,mv t f.2]
theorem i8 {A:Around} {s:Shared} {x:V} {v:Value} (rx:RelV x v) (fx:ni x=true):∀{xs:List V} {us:List Value},Vals xs us→xs.all ni=true→∀u∈us,SeqAt.EqAt A s u v (eqU x u)
 | _,_,.nil,_=>λu hu=>by cases hu
 | y::xs,u::us,.cons r t,f=>λu' hu=>by
  rw[List.all_cons,abb] at f;rcases List.mem_cons.mp hu with rfl | hu
  ·rw[Ha r f.1];exact eqAt_V r rx f.1 fx
  ·exact i8 rx fx t f.2 u' hu
noncomputable def inV (x:V) (xs:List V):Bool:=xs.any λy=>eqV y x
def rIn (K:PySem.W.Frag) (neg:Bool):R2:=λx y H Q=>∃p xs,y=.ref p∧(SqL K H p xs∨SqT K H p xs)∧ni x=true∧xs.all ni=true∧Q (.bl (if neg then !inV x xs else inV x xs)) H
theorem jq:OpR X (compareOp .In) (rIn X.K false):=by
 intro pins s σ H x y v u Q I rx ry h;obtain ⟨p,xs,rfl,hq,fx,fs,q⟩:=h;cases ry
 rcases hq with hq | hq
 ·obtain ⟨its,r,pl,hz⟩:=I.list hq;refine SeqAt.in_listAt (eqU x) pl.isList (λw hw=>i8 rx fx r fs w (by simpa using hw)) ⟨.bl _,H,I,rfl,?_⟩;rw[show its.toArray.any (eqU x)=its.any (eqU x) by simp,mv r fs];exact q
 ·obtain ⟨its,r,pl,hz⟩:=I.tuple hq;refine SeqAt.in_tupleAt (eqU x) pl (λw hw=>i8 rx fx r fs w (by simpa using hw)) ⟨.bl _,H,I,rfl,?_⟩;rw[show its.toArray.any (eqU x)=its.any (eqU x) by simp,mv r fs];exact q
theorem mq:OpR X (compareOp .NotIn) (rIn X.K true):=by
 intro pins s σ H x y v u Q I rx ry h;obtain ⟨p,xs,rfl,hq,fx,fs,q⟩:=h;cases ry
 rcases hq with hq | hq
 ·obtain ⟨its,r,pl,hz⟩:=I.list hq;refine SeqAt.notIn_listAt (eqU x) pl.isList (λw hw=>i8 rx fx r fs w (by simpa using hw)) ⟨.bl _,H,I,rfl,?_⟩;rw[show its.toArray.any (eqU x)=its.any (eqU x) by simp,mv r fs];exact q
 ·obtain ⟨its,r,pl,hz⟩:=I.tuple hq;refine SeqAt.notIn_tupleAt (eqU x) pl (λw hw=>i8 rx fx r fs w (by simpa using hw)) ⟨.bl _,H,I,rfl,?_⟩;rw[show its.toArray.any (eqU x)=its.any (eqU x) by simp,mv r fs];exact q
theorem vk:cm X (.builtin "len") (λxs H Q=>∃p ys,xs=[.ref p]∧(SqL X.K H p ys∨SqT X.K H p ys)∧Q (.int ys.length) H):=by
 intro pins s σ H xs us Q I r h;obtain ⟨p,ys,rfl,hq,q⟩:=h;obtain ⟨u,rfl,rx⟩:=vals1 r;cases rx
 have hn:=m4;rcases hq with hq | hq
 ·obtain ⟨its,r',pl,hz⟩:=I.list hq;have hlen:=r'.length;exact Calls.call_len_list pl.isList (by simp only[aae] <;> omega) ⟨.int ys.length,H,I.tok _,⟨s.toks+1,by rw[aae,hlen]⟩,q⟩
 ·obtain ⟨its,r',pl,hz⟩:=I.tuple hq;have hlen:=r'.length;exact len_tuple pl (by simp only[aae] <;> omega) ⟨.int ys.length,H,I.tok _,⟨s.toks+1,by rw[aae,hlen]⟩,q⟩
theorem xb:cm X (.builtin "len") (λxs H Q=>∃z,xs=[.str z]∧z.length≤sizeLine∧Q (.int z.length) H):=by
 intro pins s σ H xs us Q I r h;obtain ⟨z,rfl,hz,q⟩:=h;obtain ⟨u,rfl,t,rfl⟩:=vals1 r;have hn:=m4;exact len_str (by omega) ⟨.int z.length,H,I.tok _,⟨_,rfl⟩,q⟩
theorem sk:cm X (.type "tuple") (λxs H Q=>∃p ys,xs=[.ref p]∧((SqL X.K H p ys∧∀l,H l=none→Q (.ref l) (upd H l (.tup ys)))∨(SqT X.K H p ys∧Q (.ref p) H))):=by
 intro pins s σ H xs us Q I r h;obtain ⟨p,ys,rfl,h⟩:=h;obtain ⟨u,rfl,rx⟩:=vals1 r;cases rx
 rcases h with ⟨hq,q⟩ | ⟨hq,q⟩
 ·obtain ⟨its,r',pl,hz⟩:=I.list hq;have hlen:=r'.length;refine call_tuple_list pl.isList (λh' kp=>?_) (by simp only[aae] <;> omega);have I1:Inv X pins σ H { s with heap:=h' }:=I.kept (t':=s.toks) kp;have I2:Inv X pins σ (upd H h'.objs.size (.tup ys)) { s with heap:=h'.push { cls:=.type "tuple",data:=.seq its.toArray } }:=
   I1.laid (t':=s.toks) (λb o e=>Heap.get?_push_of_some _ e) (aa3 _) (show b4 X.prog X.w _ _ _ (.tup ys) from ⟨hz,its,r',⟨_,Heap.get?_push_size _ rfl,rfl,_,rfl,rfl⟩⟩)
  exact ⟨.ref h'.objs.size,_,I2,rfl,q _ (I1.hok.fresh (aa3 _))⟩
 ·obtain ⟨its,r',pl,hz⟩:=I.tuple hq;exact call_tuple_same pl ⟨.ref p,H,I,rfl,q⟩
def tyV (K:PySem.W.Frag) (T:String) (x:V) (H:Hp):Prop:=match x with
 | .str _=>T="str"
 | .int _=>T="int"
 | .ref p=>(T="list"∧∃xs,SqL K H p xs)∨(T="tuple"∧((∃o,K.lookup p=some o∧o.cls=.type "tuple"∧o.dict=none)∨∃xs,H p=some (.tup xs)))∨
   (T="dict"∧((∃kvs,H p=some (.dK kvs))∨∃kvs,H p=some (.dT kvs)))∨(T="set"∧∃S n,H p=some (.set S n))
 | _=>False
theorem tyV_is {pins:List (Addr×Obj)} {σ:St} {H:Hp} {s:Shared} {T:String} {x:V} {v:Value} (I:Inv X pins σ H s) (r:RelV x v) (ty:tyV X.K T x H):
  s.TypeIs v T∧∀a,v=.ref a→∃ob,s.heap.get? a=some ob∧ob.dict=none:=by
 cases x with
 | str z=>
  obtain ⟨t,rfl⟩:=r;cases (show T="str" from ty)
  exact ⟨typeIs_str s z t,λ_ e=>nomatch e⟩
 | int i=>
  obtain ⟨t,rfl⟩:=r;cases (show T="int" from ty)
  exact ⟨typeIs_int s i t,λ_ e=>nomatch e⟩
 | ref p=>
  cases r
  rcases ty with ⟨rfl,xs,hq⟩ | ⟨rfl,⟨o,hk,hc,hd⟩ | ⟨xs,hx⟩⟩ | ⟨rfl,hk⟩ | ⟨rfl,S,n,hk⟩
  ·obtain ⟨its,_,pl,_⟩:=I.list hq;refine ⟨pl.isList.typeIs,λa e=>?_⟩;cases e
   obtain ⟨o,n,e,c,hd,_⟩:=pl;exact ⟨o,e,hd⟩
  ·refine ⟨⟨o,I.kIn p o hk,hc⟩,λa e=>?_⟩;cases e
   exact ⟨o,I.kIn _ o hk,hd⟩
  ·obtain ⟨_,its,_,o,h1,h2,n,_,h3⟩:=I.hok p _ hx;refine ⟨⟨o,h1,h2⟩,λa e=>?_⟩;cases e
   exact ⟨o,h1,h3⟩
  ·have z:∃o,s.heap.get? p=some o∧o.ExactDict:=by
    rcases hk with ⟨kvs,hk⟩ | ⟨kvs,hk⟩
    ·obtain ⟨_,_,_,_,o,_,_,e,ex,_⟩:=I.hok p _ hk;exact ⟨o,e,ex⟩
    ·obtain ⟨_,_,_,_,o,_,_,e,ex,_⟩:=I.hok p _ hk;exact ⟨o,e,ex⟩
   obtain ⟨o,e,ex⟩:=z;refine ⟨⟨o,e,ex.1⟩,λa e2=>?_⟩;cases e2
   exact ⟨o,e,ex.2.1⟩
  ·obtain ⟨o,_,_,_,e,ex,_⟩:=I.hok p _ hk;refine ⟨⟨o,e,ex.1⟩,λa e2=>?_⟩;cases e2
   exact ⟨o,e,ex.2.1⟩
 | _=>exact False.elim ty
def tBM0 (K:PySem.W.Frag) (T:String) (r:V→List V→Hp→VK→Prop) (to:TE):TE:=λσ H Q=>to σ H λx H1=>tyV K T x H1∧r x [] H1 Q
def tBM (K:PySem.W.Frag) (T:String) (r:V→List V→Hp→VK→Prop) (to:TE) (t:TA):TE:=λσ H Q=>to σ H λx H1=>tyV K T x H1∧t σ H1 λxs H2=>r x xs H2 Q
variable {o e:Expr} {es:List Expr} {to:TE} {t:TA} {name:Str} {apos cpos:Pos} {T id:String} {r:V→List V→Hp→VK→Prop}
theorem pe_bm (pa:PlainAttrs T) (slot:Slot T name id) (hty:typeOf (.builtin id)=pure (.type "method_descriptor")) (hm:MtR X id r) (ho:PE X o to) (ha:PA X (e::es) t)
  (hbase:attributeBase o name X.env (eval o X.env)=eval o X.env:=by rfl)
  (hfew:((backTo cpos (starEach (e::es) X.env)).all (λx=>!x.1)&&(backToKw cpos (keywordEach [] X.env)).all (λx=>x.1.isSome)
   &&decide ((e::es).length+([]:List Keyword).length+(if ([]:List Keyword).isEmpty then 0 else 1) < 30))=true:=by rfl)
  (hline:(apos.endLine==cpos.line)=true:=by rfl) (hs:starEach (e::es) X.env=(false,eval e X.env)::starEach es X.env:=by rfl) (hplain:(backTo cpos (starEach es X.env)).any (·.1)=false:=by rfl):
  PE X (.Call (.Attribute o name apos) (e::es) [] cpos) (tBM X.K T r to t):=by
 intro pins s σ H Q I h;refine wpAny_Call_method_late hbase hfew hline rfl (thn (ho pins s σ H _ I h) λv s1 ⟨x,H1,I1,r1,ty,q1⟩=>?_);obtain ⟨h1,h2⟩:=tyV_is I1 r1 ty;refine ⟨T,id,pa,slot,hty,h1,h2,?_⟩;have hA:=ha cpos pins s1 σ H1 _ I1 q1;rw[hs] at hA ⊢;refine Calls.callWith_builtin (by show (false||(backTo cpos (starEach es X.env)).any (·.1))=false;rw[hplain] <;> rfl) (Calls.evalArgs_plain ?_);exact thn hA λus s2 ⟨vs,H2,I2,r2,q2⟩=>hm pins s2 σ H2 x vs v us Q I2 r1 r2 q2
end
def MtM (X:Cx) (id:String) (r:V→List V→Hp→VK→Prop):Prop:=
 ∀(pins:List (Addr×Obj)) (s:Shared) (σ:St) (H:Hp) (x:V) (xs:List V) (v:Value) (us:List Value) (Q:VK),Inv X pins σ H s→RelV x v→Vals xs us→r x xs H Q→
  wpAny (model X.prog X.w) X.A (call (.builtin id) (v::us)) (EP X pins σ Q) X.xe s
theorem Vals.one:∀{x:V} {us:List Value},Vals [x] us→∃u,us=[u]∧RelV x u
 | _,_,.cons r .nil=>⟨_,rfl,r⟩
theorem Vals.two:∀{x y:V} {us:List Value},Vals [x,y] us→∃u v,us=[u,v]∧RelV x u∧RelV y v
 | _,_,_,.cons r (.cons q .nil)=>⟨_,_,rfl,r,q⟩
section
variable {X:Cx} {pins:List (Addr×Obj)} {σ:St} {H:Hp} {s:Shared} {l b:Addr} {xs ys zs:List V}
theorem Inv.lset {its its':List Value} {n:Nat} {f:Array Value→Array Value} {t':Nat} (I:Inv X pins σ H s) (hH:H l=some (.lst xs))
  (e:s.heap.get? l=some { cls:=.type "list",data:=.seq its.toArray n }) (hf:f its.toArray=its'.toArray) (hv:Vals ys its') (hz:ys.length≤sizeLine):
  Inv X pins σ (upd H l (.lst ys)) { s with heap:=s.heap.update l (Obj.mapSeq f),toks:=t' }:=by
 have q:=PySem.IsL.update e f;rw[hf] at q;refine I.write (x:=l) (e:=l) (by rw[hH];exact trivial) (.inl rfl) (λb' u hb hu=>(Heap.get?_update_other s.heap (Obj.mapSeq f) (Ne.symm hb)).trans hu) ⟨_,q⟩ ?_;exact ⟨hz,its',_,hv,q⟩
theorem Inv.lnew {its:List Value} {t':Nat} (I:Inv X pins σ H s) (hv:Vals ys its) (hz:ys.length≤sizeLine):
  Inv X pins σ (upd H s.heap.objs.size (.lst ys)) { s with heap:=s.heap.push { cls:=.type "list",data:=.seq its.toArray },toks:=t' }:=
 I.laid (λ_ _ q=>Heap.get?_push_of_some _ q) (aa3 _) ⟨hz,its,0,hv,Heap.get?_push_size _ rfl⟩
theorem Inv.fresh (I:Inv X pins σ H s):H s.heap.objs.size=none:=I.hok.fresh (aa3 _)
theorem Inv.lstM (I:Inv X pins σ H s) (hH:H l=some (.lst xs)):xs.length≤sizeLine∧∃(its:List Value) (n:Nat),Vals xs its∧xs.length=its.length∧s.heap.get? l=some { cls:=.type "list",data:=.seq its.toArray n }:=by
 obtain ⟨z,its,n,r,e⟩:=I.hok l _ hH;exact ⟨z,its,n,r,r.length,e⟩
end
section
variable {X:Cx}
def Dt:V→List V→Hp→VK→Prop:=λx vs H Q=>∃l xs y,x=.ref l∧vs=[y]∧H l=some (.lst xs)∧xs.length < sizeLine∧Q .non (upd H l (.lst (xs++[y])))
theorem t4:MtM X "list.append" Dt:=by
 intro pins s σ H x vs v us Q I rx rv h;obtain ⟨l,xs,y,rfl,rfl,hH,hz,q⟩:=h;cases rx
 obtain ⟨u,rfl,ru⟩:=rv.one;obtain ⟨z,its,n,r,hl,e⟩:=I.lstM hH;refine call_meets F.slot_list_append ⟨_,e,rfl⟩ F.entry_list_append (F.args_list_append_2 _ _) (PySem.list_append l its.toArray n u (by rw[aae];omega)) ⟨e,?_⟩;refine ⟨.non,_,I.lset (its':=its++[u]) hH e (by simp) (r.append (.cons ru .nil)) ?_,rfl,q⟩;rw[aa4,abj];omega
def rCat:R2:=λx y H Q=>∃l b xs zs,x=.ref l∧y=.ref b∧H l=some (.lst xs)∧H b=some (.lst zs)∧xs.length+zs.length≤sizeLine∧∀p,H p=none→Q (.ref p) (upd H p (.lst (xs++zs)))
theorem gm:OpR X (binaryOp .Add) rCat:=by
 intro pins s σ H x y v u Q I rx ry h;obtain ⟨l,b,xs,zs,rfl,rfl,hH,hB,hz,q⟩:=h;cases rx
 cases ry
 obtain ⟨z,its,n,r,hl,e⟩:=I.lstM hH;obtain ⟨z2,its2,n2,r2,hl2,e2⟩:=I.lstM hB;refine PySem.P.add_list e e2 ?_ (by rw[aae,aae];omega);have ea:its.toArray++its2.toArray=(its++its2).toArray:=by simp
 rw[ea];exact ⟨.ref _,_,I.lnew (t':=s.toks) (r.append r2) (by rw[aa4];omega),rfl,q _ I.fresh⟩
end
section
variable {prog:Program} {w:World} {A:Around} {E:Value→Shared→Prop} {s:Shared}
set_option maxRecDepth 100000 in
end
end L2
namespace Att
open PySem PySem.W PySem.Calls PyProof.Rows
theorem nz {P:Params} {h:Heap}:∀(ns:List Int) (vs:List Value),WellAll P h vs (ns.map WData.int)→IntsAre vs ns:=by
 intro ns;induction ns with
 | nil=>
  intro vs w;rw[acg] at w;cases w
  exact .nil
 | cons n ns ih=>
  intro vs w;rw[aao] at w;cases w with
  | cons a b=>
   cases a
   exact .cons _ _ (ih _ b)
theorem Gk {l:OpenLaw} {n:Nat} (hn:l.most=some n) {P:Params} {h:Heap} {args:List WData} {vals:List Value}
  (hpre:l.row.toRowW.claim.pre args=true) (hwl:WellAll P h vals args):
  ∃a vs ns,vals=[Value.ref a]∧args=[WData.list (ns.map WData.int)]∧h.get? a=some { cls:=.type "list",data:=.seq vs.toArray }∧IntsAre vs ns∧ns.length≤n:=by
 have hsh:WShape.hasAll [] args [.list .int]=true:=(pre_splitW hpre).1;have hc:l.pre.holds [] { args:=args }=true:=(pre_splitW hpre).2;obtain ⟨d,r,rfl,h1,h2⟩:=hasAllW_cons hsh;obtain rfl:=hasAllW_nil h2;obtain ⟨xs,rfl,h3⟩:=hasW_list h1;obtain ⟨ns,rfl⟩:=items_int h3;have hlen:ns.length≤n:=by
  unfold OpenLaw.pre at hc;have h4:(WTm.not (.lt (.lit (.int (n:Int))) (.len (.arg 0)))).holds [] { args:=[.list (ns.map .int)] }=true:=by
   have h4:=(holds_andW hc).1;rw[hn] at h4;exact h4
  have h5:=condW_of h4 (w_not (w_lt w_lit (w_len_list (w_arg rfl))));rw[aa2] at h5;refine aea λq=>?_;have q':(n:Int) < ((ns.length:Nat):Int):=by omega
  first
   | (rw[decide_eq_true q'] at h5;exact absurd h5 (by decide))
   | (simp at h5;omega)
 cases hwl with
 | cons w1 w2=>
  cases w2
  cases w1 with
  | list ho hall=>exact ⟨_,_,ns,rfl,rfl,ho,nz ns _ hall,hlen⟩
theorem Fx (l:OpenLaw) (args:List WData):l.row.toRowW.claim.post args (.bool true) args=true:=
 postW_of (r:=l.row.toRowW) (X:=(true==true))
  (show WShape.has [] (.bool true) .bool=true by first | rfl | decide | simp[WShape.has,WShape.arms,WShape.armsAll])
  (show (WTm.eq .res (.lit (.bool true))).value [] { args:=args,res:=some (.bool true),after:=args }=some (.bool (true==true)) from w_eq_bool (w_res rfl) w_lit) rfl
theorem Aj {l:OpenLaw} {n:Nat} {q:Program} {loose:List Str} {XP:(Str→Option Value)→Heap→Prop} {YP:World→Heap→Prop} {d:DefRec}
  (hn:l.most=some n) (hdf:d.params.defaults=[])
  (call:∀(w:World) (s₀ s₁:Shared) (mg mb:Str→Option Value) (fa:Addr) (o:Obj) (pm cd doc:Value) (a:Addr) (vs:List Value) (ns:List Int),
   Ground q loose [] XP w s₀ mg mb s₁.heap→YP w s₁.heap→
   s₁.heap.get? fa=some o→o.data=.func (docDef d.name d.params d.body d.scope pm cd doc)→s₁.heap.CodeRec cd d.name→mg d.name=some (.ref fa)→
   s₁.heap.get? a=some { cls:=.type "list",data:=.seq vs.toArray }→IntsAre vs ns→ns.length≤n→s₁.gens=#[]→
   codeAny (model l.prog w) callerA (.call (.ref fa) ⟨[.ref a],[]⟩) (λr s'=>r=.ok (.ret (.bool true))∧OldK s₁.heap s'.heap∧s'.os=s₁.os∧AllBare s'.gens) s₁):
  WalkO q loose XP YP l.row.toRowW d [] (λf vs=>PySem.call f vs):=by
 intro w s₀ s₁ mg mb G Y fa o pm cd doc dV kV ho hd hcd hD hmg hg args vals as hpre hlay hrd hwl hlo;obtain rfl:dV=.none:=Dflts.none hD hdf;obtain rfl:kV=.none:=Dflts.noKw hD;obtain ⟨a,vs,ns,rfl,rfl,hobj,hints,hlen⟩:=Gk hn hpre hwl;refine enter_call (codeAny_mono (call w s₀ s₁ mg mb fa o pm cd doc a vs ns G Y ho (fd_plain hd) hcd hmg hobj hints hlen hg) λr s' hq=>?_);obtain ⟨rfl,h2,h3,h4⟩:=hq;exact ⟨.inl ⟨.bool true,.bool true,[],rfl,λ_=>rfl,.bool true,Fx l _,λ_=>⟨List.Pairwise.nil,λ_ hm=>(nomatch hm)⟩⟩,h2,h3,h4⟩
end Att
namespace L2
open PySem PySem.Spec PyProof.Rows
theorem uz:∀{vs:List Value} {ns:List Int},IntsAre vs ns→Vals (ns.map V.int) vs
 | _,_,.nil=>.nil
 | _,_,.cons n t h=>.cons ⟨t,rfl⟩ (uz h)
def Only (H:Hp):Prop:=∀b,H b=none∨∃o xs,H b=some (.frz o (.lst xs))
theorem Hk {P:Program} {w:World} {K:PySem.W.Frag} {mg mb:Str→Option Value} {CX:CXT} {k:Nat} {fa a:Addr} {fd:FuncData} {x:Str} {sp:Sp} {s₁:Shared} {vs:List Value} {ns:List Int}
  (KX:K.In s₁.heap) (hns:s₁.heap.Ns mainGlobals mg) (hb:s₁.heap.Ns builtinsNs mb) (hbb:∀x:Str,x≠"__name__"→mb x=bootBuiltins x) (hlim:s₁.heap.NoLimit) (hg:s₁.gens=#[])
  (ha:s₁.heap.get? a=some { cls:=.type "list",data:=.seq vs.toArray }) (hi:IntsAre vs ns) (hl:ns.length≤sizeLine) (hr:cv k callerA)
  (F:∀base:Heap,K.In base→base.Ns mainGlobals mg→h9 P w K mg base CX k fa fd [x] sp) (hbind:∀(s:Shared) (u:Value),BindsTo s fd ⟨[u],[]⟩ [(x,u)])
  (hsp:∀H:Hp,Only H→SqL K H a (ns.map V.int)→sp [.ref a] H (λv _=>v=.bl true) λ_ _ _=>False)
  (hCX:∀H e s',CX [] H s₁ (λ_ _ _=>False) e s'→False):
  codeAny (model P w) callerA (.call (.ref fa) ⟨[.ref a],[]⟩) (λr s'=>r=.ok (.ret (.bool true))∧OldK s₁.heap s'.heap∧s'.os=s₁.os∧AllBare s'.gens) s₁:=by
 have rv:=uz hi;have lenV:=hi.length;have core:∀H:Hp,Only H→SqL K H a (ns.map V.int)→HOk P w H s₁.heap→(∀b,H b≠none→b=a)→(H a≠none→K.lookup a=none)→
   codeAny (model P w) callerA (.call (.ref fa) ⟨[.ref a],[]⟩) (λr s'=>r=.ok (.ret (.bool true))∧OldK s₁.heap s'.heap∧s'.os=s₁.os∧AllBare s'.gens) s₁:=by
  intro H hO hS hok hA hK;have base_of:∀{b:Addr} {o:Obj},s₁.heap.get? b=some o→H b=none→(wx s₁.heap H).get? b=some o:=λe n=>Ju e n;have noA:∀{b:Addr} {o:Obj} {es:Array DictEntry} {ep:Nat},s₁.heap.get? b=some o→o.data=.dict es ep→H b=none:=λ{b o es ep} e d=>by
   cases q:H b with
   | none=>rfl
   | some u=>
    have e':b=a:=hA b (by rw[q];simp);subst e';rw[ha] at e;cases e;have d':Data.seq vs.toArray _=Data.dict es ep:=d;cases d'
  have nsK:∀{b:Addr} {m:Str→Option Value},s₁.heap.Ns b m→(wx s₁.heap H).Ns b m:=λ{b m} ⟨o,es,ep,e,d,r⟩=>⟨o,es,ep,base_of e (noA e d),d,r⟩;have hKb:K.In (wx s₁.heap H):=λb o e=>base_of (KX b o e) (by
   cases q:H b with
   | none=>rfl
   | some u=>
    have e':b=a:=hA b (by rw[q];simp);subst e';rw[hK (by rw[q];simp)] at e;cases e)
  have hM:Mod K mg (wx s₁.heap H):=⟨hKb,nsK hns,⟨mb,nsK hb,hbb⟩,let ⟨mc,h1,h2⟩:=hlim;⟨mc,nsK h1,h2⟩⟩;have e0:Br P w K mg (wx s₁.heap H) callerA [] s₁ H:=⟨rfl,hM,λb o e=>M7 e,Nat.le_of_eq (E8 _ _),trivial,λb hb=>absurd (show b∈([]:List Addr) from hb) (by simp),hok,.of_eq hg⟩;refine codeAny_mono ((F _ hKb (nsK hns)).run callerA [] s₁ H ⟨[.ref a],[]⟩ [.ref a] [.ref a] _ _ hr e0 (hbind s₁ (.ref a)) (.cons rfl .nil) (hsp H hO hS)) λr s' h=>?_;cases r with
  | error e=>exact (hCX H e s' h).elim
  | ok fl=>
   cases fl with
   | next=>exact False.elim h
   | brk=>exact False.elim h
   | cont=>exact False.elim h
   | ret u=>
    obtain ⟨v,H',os,bare,un,hok',r',q⟩:=h;have q':v=.bl true:=q;subst q';obtain rfl:u=Value.bool true:=r';refine ⟨rfl,OldK.of_keep λb o e=>?_,os,bare⟩;cases q:H b with
    | none=>exact un.keep b o e q (by intro z;exact absurd (show b∈([]:List Addr) from z) (by simp)) (by simp)
    | some u=>
     rcases hO b with z | ⟨ob,xs,z⟩
     ·rw[q] at z;cases z
     ·have z2:=un.frzs b ob _ z;obtain ⟨e1,_⟩:=hok b _ z;obtain ⟨e2,_⟩:=hok' b _ z2;rw[e] at e1;cases e1;exact e2
 cases hk:K.lookup a with
 | some o=>
  have e:=KX a o hk;rw[ha] at e;cases e
  refine core (λ_=>none) (λ_=>.inl rfl) (.inr ⟨_,vs.toArray,_,hk,rfl,rfl,rfl,by rw[aae,lenV];exact hl,by simpa using rv⟩) (λb u z=>by have z':(none:Option HO)=some u:=z;cases z') (λb z=>absurd rfl z) λz=>absurd rfl z
 | none=>
  refine core (λb=>if b=a then some (.frz { cls:=.type "list",data:=.seq vs.toArray } (.lst (ns.map V.int))) else none) (λb=>?_) (.inl (.inr ⟨{ cls:=.type "list",data:=.seq vs.toArray },if_pos rfl⟩)) (λb u z=>?_) (λb z=>?_) λ_=>hk
  ·by_cases hb:b=a
   ·exact .inr ⟨_,_,if_pos hb⟩
   ·exact .inl (if_neg hb)
  ·by_cases hb:b=a
   ·have z':=(if_pos hb).symm.trans z;cases z'
    subst hb;exact ⟨ha,by rw[aa2];exact hl,vs,_,rv,ha⟩
   ·have z':=(if_neg hb).symm.trans z;cases z'
  ·by_cases hb:b=a
   ·exact hb
   ·exact absurd (if_neg hb) z
noncomputable abbrev KOf {K:PySem.W.Frag} {h:Heap} (_:K.In h):PySem.W.Frag:=K
theorem Lz {l:PySem.W.OpenLaw} {n k:Nat} {q:Program} {loose:List Str} {XP:(Str→Option Value)→Heap→Prop} {YP:World→Heap→Prop} {d:DefRec} {K:Params→PySem.W.Frag} {CX:World→CXT} {sp:World→Sp} {x:Str}
  (hn:l.most=some n) (hn2:n≤sizeLine) (hdf:d.params.defaults=[]) (hr:cv k callerA)
  (hY:∀(w:World) (h:Heap),YP w h→(K w.params).In h)
  (F:∀(w:World) (mg:Str→Option Value) (fa:Addr) (h:Heap),(K w.params).In h→h.Ns mainGlobals mg→mg d.name=some (.ref fa)→
   ∃fd:FuncData,(∀(s:Shared) (u:Value),BindsTo s fd ⟨[u],[]⟩ [(x,u)])∧
    ∀base:Heap,(K w.params).In base→base.Ns mainGlobals mg→h9 l.prog w (K w.params) mg base (CX w) k fa fd [x] (sp w))
  (hsp:∀(w:World) (H:Hp) (a:Addr) (ns:List Int),ns.length≤n→Only H→SqL (K w.params) H a (ns.map V.int)→sp w [.ref a] H (λv _=>v=.bl true) λ_ _ _=>False)
  (hCX:∀(w:World) (H:Hp) (s:Shared) (e:Value) (s':Shared),CX w [] H s (λ_ _ _=>False) e s'→False):
  PySem.W.WalkO q loose XP YP l.row.toRowW d [] (λf vs=>PySem.call f vs):=by
 refine Att.Aj hn hdf λw s₀ s₁ mg mb fa o pm cd doc a vs ns G Y ho hd hcd hmg hobj hints hlen hg=>?_;have KX:=hY w _ Y;obtain ⟨fd,hb,hF⟩:=F w mg fa _ KX G.T.g hmg;exact Hk KX G.T.g G.T.b G.T.builtins G.T.nolimit hg hobj hints (aak hlen hn2) hr hF hb (λH hO hS=>hsp w H a ns hlen hO hS) λH e s'=>hCX w H s₁ e s'
noncomputable def av (s:Stmt):Arguments:=match s with
 | .FunctionDef _ a _ _ _ _ _ _ _ _=>a
 | _=>{ posonlyargs:=[],args:=[],vararg:=none,kwonlyargs:=[],kw_defaults:=[],kwarg:=none,defaults:=[] }
noncomputable def ar (s:Stmt):List Stmt:=match s with
 | .FunctionDef _ _ b _ _ _ _ _ _ _=>b
 | _=>[]
noncomputable def af (s:Stmt):Scope:=match s with
 | .FunctionDef _ _ _ _ _ _ sc _ _ _=>sc
 | _=>{ kind:=.function,names:=[],isGenerator:=false,isCoroutine:=false }
noncomputable abbrev CX0:CXT:=λ_ _ _ _ _ _=>False
abbrev E0:XK:=λ_ _ _=>False
theorem pass0 {X:Cx}:Passes CX0 X E0:=λ_ _ _ _ _ _ _ h=>h.elim
structure Fun (K:PySem.W.Frag) (x qual:Str) (st:Stmt) (f:Addr) (fd:FuncData):Prop where
 ex:∃(oc:Value) (od:Option Addr) (kV doc pm:Value) (an:Option Addr) (cdv ct:Value) (osl:Array (Option Value)),
  fd=PySem.W.fnOf x qual (av st) (ar st) (af st) .none kV doc pm an cdv ct∧K.lookup f=some ⟨oc,od,.func fd,osl⟩∧PySem.W.codeIn K cdv qual=true
 kp:PySem.W.keepIn K (.ref f)=true
section
variable {P:Program} {w:World} {K:PySem.W.Frag} {mg:Str→Option Value} {base:Heap}
theorem Fun.ok {x qual:Str} {st:Stmt} {f:Addr} {fd:FuncData} {N ps:List Str} {k:Nat} {sp:Sp} (F:Fun K x qual st f fd) (S:au N ps (af st)) (len:∀vs H Q E,sp vs H Q E→vs.length=ps.length)
  (hbody:∀(cdv:Value) (A:Around) (outer:List Env) (s:Shared) (H:Hp) (vs:List V) (Q:VK) (E:XK),cv k (A.deeper (envOfC qual (af st) s.heap.objs.size f cdv))→sp vs H Q E→
   ∃t,PSs (kq CX0 P w K mg base N qual (af st) f cdv A outer s H E).nox (ar st) t∧t { nx:=λ_ H'=>Q .non H',rt:=Q } (start N vs) H):h9 P w K mg base CX0 (k+1) f fd ps sp:=by
 obtain ⟨oc,od,kV,doc,pm,an,cdv,ct,osl,rfl,lk,hcd⟩:=F.ex;refine fn_of lk hcd S len λA outer s H vs Q E hr hsp=>?_;obtain ⟨t,h,q⟩:=hbody cdv A outer s H vs Q E hr hsp;exact ⟨t,h.nox,q⟩
theorem Fun.binds {x qual:Str} {st:Stmt} {f:Addr} {fd:FuncData} {ps:List Str} (F:Fun K x qual st f fd)
  (h:∀(kV doc pm:Value) (an:Option Addr) (cdv ct:Value) (us:List Value),us.length=ps.length→bindArgs (PySem.W.fnOf x qual (av st) (ar st) (af st) .none kV doc pm an cdv ct) ⟨us,[]⟩=pure (ps.zip us)):Binds K fd ps []:=by
 obtain ⟨oc,od,kV,doc,pm,an,cdv,ct,osl,rfl,lk,hcd⟩:=F.ex;exact .all (h kV doc pm an cdv ct)
theorem ba {x qual:Str} {st:Stmt} {f:Addr} {oc:Value} {od an:Option Addr} {osl:Array (Option Value)} {kV doc pm cdv ct:Value} (l:K.lookup f=some ⟨oc,od,.func (PySem.W.fnOf x qual (av st) (ar st) (af st) .none kV doc pm an cdv ct),osl⟩)
  (c:PySem.W.codeIn K cdv qual=true) (k:PySem.W.keepIn K (.ref f)=true):Fun K x qual st f (PySem.W.fnOf x qual (av st) (ar st) (af st) .none kV doc pm an cdv ct):=⟨⟨oc,od,kV,doc,pm,an,cdv,ct,osl,rfl,l,c⟩,k⟩
end
theorem br {A:Around} {k:Nat} (hr:cv k A):A.units+1 < cLine:=ab1 (Nat.add_le_add_left (by decide:1≤64) _) hr.units
section
variable {X:Cx}
theorem pv (i:Nat) {x:Str} {pos:Pos} (hN:X.N[i]?=some x:=by rfl) (hv:Vis X.env.scope x:=by first | exact aa1 rfl | exact aa0 (aa1 rfl) | exact aa0 (aa0 rfl)) (hd:(x==("__debug__":Str))=false:=by decide)
  (hcd:(x==("__classdict__":Str))=false:=by decide):PE X (.Name x pos) (tVar i):=pe_var hN hv hd hcd
end
theorem iteF {A B:Prop} (h:B):if false=true then A else B:=by
 rw[if_neg aan];exact h
theorem bc {c A B:Prop} [Decidable c] (h1:c→A) (h2:¬c→B):if c then A else B:=by
 by_cases h:c
 ·rw[if_pos h];exact h1 h
 ·rw[if_neg h];exact h2 h
def ao (H H':Hp):Prop:=∀b o,H b=some o→H' b=some o
theorem ao.refl (H:Hp):ao H H:=λ_ _ h=>h
theorem ao.trans {H H1 H2:Hp} (a:ao H H1) (b:ao H1 H2):ao H H2:=λc o h=>b c o (a c o h)
theorem ao.free {H H':Hp} (e:ao H H') {l:Addr} (h:H' l=acp):H l=acp:=by
 cases q:H l with
 | none=>rfl
 | some o=>
  rw[e l o q] at h;cases h
theorem ao.seq {K:PySem.W.Frag} {H H':Hp} {a:Addr} {xs:List V} (e:ao H H') (h:SqL K H a xs):SqL K H' a xs:=by
 rcases h with (h | ⟨o,h⟩) | h
 ·exact .inl (.inl (e _ _ h))
 ·exact .inl (.inr ⟨o,e _ _ h⟩)
 ·exact .inr h
section
variable {κ:Type} [DecidableEq κ]
noncomputable def bz (kvs:List (κ×V)) (k:κ):Option V:=(kvs.find? λkv=>decide (kv.1=k)).map (·.2)
noncomputable def putK (kvs:List (κ×V)) (k:κ) (v:V):List (κ×V):=
 if (kvs.any λkv=>decide (kv.1=k))=true then kvs.map (λkv=>if kv.1=k then (kv.1,v) else kv) else kvs++[(k,v)]
noncomputable def iz (kvs:List (κ×V)) (k:κ):List (κ×V):=kvs.filter λkv=>decide (kv.1≠k)
theorem bg {p:κ×V} {r:List (κ×V)} {k:κ} (e:p.1=k):bz (p::r) k=some p.2:=by simp[bz,abm,e]
theorem bf {p:κ×V} {r:List (κ×V)} {k:κ} (e:¬p.1=k):bz (p::r) k=bz r k:=by simp[bz,abm,e]
theorem lg (k:κ):∀kvs:List (κ×V),(kvs.any λkv=>decide (kv.1=k))=(bz kvs k).isSome
 | []=>rfl
 | p::r=>by
  rw[aca];by_cases e:p.1=k
  ·simp only[bg e,decide_eq_true e,ab3,Option.isSome_some]
  ·rw[bf e,decide_eq_false e,ac0];exact lg k r
theorem zu (k j:κ) (y:V):∀kvs:List (κ×V),bz (kvs.map λkv=>if kv.1=k then (kv.1,y) else kv) j=(bz kvs j).map λx=>if j=k then y else x
 | []=>rfl
 | p::r=>by
  have ih:=zu k j y r;rw[aao];by_cases h:p.1=k
  ·rw[if_pos h];by_cases e:p.1=j
   ·rw[bg (p:=(p.1,y)) e,bg e,acw,if_pos (e.symm.trans h)]
   ·rw[bf (p:=(p.1,y)) e,bf e,ih]
  ·rw[if_neg h];by_cases e:p.1=j
   ·rw[bg (p:=p) e,bg e,acw,if_neg (λz=>h (e.trans z))]
   ·rw[bf (p:=p) e,bf e,ih]
theorem tf (k j:κ) (y:V):∀kvs:List (κ×V),bz kvs k=none→bz (kvs++[(k,y)]) j=if j=k then some y else bz kvs j
 | [],_=>by
  by_cases e:k=j
  ·rw[if_pos e.symm];exact bg (p:=(k,y)) e
  ·rw[if_neg (λz=>e z.symm)];exact bf (p:=(k,y)) e
 | p::r,hn=>by
  rw[aeb];have hk:¬p.1=k:=λz=>by rw[bg z] at hn;cases hn
  rw[bf hk] at hn;have ih:=tf k j y r hn;by_cases e:p.1=j
  ·rw[bg e,bg e,if_neg (λz=>hk (e.trans z))]
  ·rw[bf e,bf e,ih]
theorem gv (kvs:List (κ×V)) (k j:κ) (y:V):bz (putK kvs k y) j=if j=k then some y else bz kvs j:=by
 unfold putK;by_cases a:(kvs.any λkv=>decide (kv.1=k))=true
 ·rw[if_pos a,zu];rw[lg] at a;by_cases e:j=k
  ·obtain ⟨x,hx⟩:=Option.isSome_iff_exists.mp a;rw[if_pos e,e,hx,acw,if_pos rfl]
  ·rw[if_neg e];cases bz kvs j with
   | none=>rfl
   | some x=>rw[acw,if_neg e]
 ·rw[if_neg a];refine tf k j y kvs ?_;rw[lg] at a;cases q:bz kvs k with
  | none=>rfl
  | some x=>rw[q] at a;exact (a rfl).elim
theorem d6 (kvs:List (κ×V)) (k:κ) (v:V):(putK kvs k v).length≤kvs.length+1:=by
 unfold putK;split
 ·rw[aa2];omega
 ·rw[aa4,aa8,abg];omega
theorem dq.jk {o:Option V} {u:Option Value} (r:dq o u):o.isSome=u.isSome:=by
 cases o with
 | none=>cases u with
  | none=>rfl
  | some _=>exact (show False from r).elim
 | some _=>cases u with
  | none=>exact (show False from r).elim
  | some _=>rfl
theorem dq.getD {o:Option V} {u:Option Value} {d:V} {d':Value} (r:dq o u) (rd:RelV d d'):RelV (o.getD d) (u.getD d'):=by
 cases o with
 | none=>cases u with
  | none=>exact rd
  | some _=>exact (show False from r).elim
 | some _=>cases u with
  | none=>exact (show False from r).elim
  | some _=>exact r
theorem KV.val {kvs:List (κ×V)} {vs:List (κ×Value)} (r:KV kvs vs) (k:κ):dq (bz kvs k) (valueAt vs k):=by
 unfold KV at r;induction r with
 | nil=>exact True.intro
 | @cons p q ps qs h t ih=>
  obtain ⟨h1,h2⟩:=h;by_cases e:p.1=k
  ·have e':q.1=k:=h1.symm.trans e;have b:valueAt (q::qs) k=some q.2:=by simp[valueAt,abm,e']
   rw[bg e,b];exact h2
  ·have e':¬q.1=k:=λz=>e (h1.trans z);have b:valueAt (q::qs) k=valueAt qs k:=by simp[valueAt,abm,e']
   rw[bf e,b];exact ih
theorem KV.any {kvs:List (κ×V)} {vs:List (κ×Value)} (r:KV kvs vs) (k:κ):(kvs.any λkv=>decide (kv.1=k))=vs.any λkv=>decide (kv.1=k):=by
 unfold KV at r;induction r with
 | nil=>rfl
 | cons h t ih=>rw[aca,aca,ih,h.1]
theorem KV.repl {kvs:List (κ×V)} {vs:List (κ×Value)} (r:KV kvs vs) (k:κ) {y:V} {u:Value} (ry:RelV y u):
  KV (kvs.map λkv=>if kv.1=k then (kv.1,y) else kv) (vs.map λkv=>if kv.1=k then (kv.1,u) else kv):=by
 unfold KV at r ⊢;induction r with
 | nil=>exact .nil
 | @cons p q ps qs h t ih=>
  rw[aao,aao];refine .cons ?_ ih;obtain ⟨h1,h2⟩:=h;by_cases e:p.1=k
  ·rw[if_pos e,if_pos (h1.symm.trans e)];exact ⟨h1,ry⟩
  ·rw[if_neg e,if_neg (λz=>e (h1.trans z))];exact ⟨h1,h2⟩
theorem KV.put {kvs:List (κ×V)} {vs:List (κ×Value)} (r:KV kvs vs) (k:κ) {y:V} {u:Value} (ry:RelV y u):KV (putK kvs k y) (stored vs k u):=by
 unfold putK stored;rw[r.any k];by_cases e:(vs.any λkv=>decide (kv.1=k))=true
 ·rw[if_pos e,if_pos e];exact r.repl k ry
 ·rw[if_neg e,if_neg e];exact Paired.snoc r ⟨rfl,ry⟩
theorem KV.drop {kvs:List (κ×V)} {vs:List (κ×Value)} (r:KV kvs vs) (k:κ):KV (iz kvs k) (without vs k):=by
 unfold KV at r ⊢;unfold iz without;induction r with
 | nil=>exact .nil
 | @cons p q ps qs h t ih=>
  obtain ⟨h1,h2⟩:=h;rw[abx,abx];by_cases e:p.1=k
  ·have a:¬decide (p.1≠k)=true:=by simp[e]
   have b:¬decide (q.1≠k)=true:=by simp[h1.symm.trans e]
   rw[if_neg a,if_neg b];exact ih
  ·have e':¬q.1=k:=λz=>e (h1.trans z);have a:decide (p.1≠k)=true:=by simp[e]
   have b:decide (q.1≠k)=true:=by simp[e']
   rw[if_pos a,if_pos b];exact .cons ⟨h1,h2⟩ ih
theorem KV.length {kvs:List (κ×V)} {vs:List (κ×Value)} (r:KV kvs vs):kvs.length=vs.length:=Paired.length r
theorem Ad (kvs:List (κ×V)) (k:κ):(iz kvs k).length≤kvs.length:=acs _ _
end
theorem j8 {P:Program} {w:World} {k:Key} {u:Value} (r:RelV (kV k) u):(bu P w).is k u=true:=by
 cases k with
 | inl i=>obtain ⟨t,e⟩:=(show ∃t,u=Value.int i t from r);subst e;exact zi P w i t
 | inr x=>obtain ⟨t,e⟩:=(show ∃t,u=Value.str x t from r);subst e;exact ja P w x t
theorem t7 {P:Program} {w:World}:∀{ks:List Key} {us:List Value},Vals (ks.map kV) us→ItemsAre (bu P w) ks us
 | [],_,r=>by rw[acg] at r;cases r;exact .nil
 | k::ks,_,r=>by
  rw[aao] at r;cases r with
  | cons h t=>exact .cons (j8 h) (t7 t)
abbrev KT (H:Hp):List (List Key×V)→List (List Key×Addr×Value)→Prop:=Paired λp q=>p.1=q.1∧H q.2.1=some (.tup (p.1.map kV))∧RelV p.2 q.2.2
theorem KT.val {H:Hp} {kvs:List (List Key×V)} {xs:List (List Key×Addr×Value)} (r:KT H kvs xs) (k:List Key):dq (bz kvs k) ((atKey xs k).map (·.2)):=by
 induction r with
 | nil=>exact True.intro
 | @cons p q ps qs h t ih=>
  obtain ⟨h1,_,h2⟩:=h;by_cases e:p.1=k
  ·have e':q.1=k:=h1.symm.trans e;have b:atKey (q::qs) k=some q.2:=by simp[atKey,abm,e']
   rw[bg e,b];exact h2
  ·have e':¬q.1=k:=λz=>e (h1.trans z);have b:atKey (q::qs) k=atKey qs k:=by simp[atKey,abm,e']
   rw[bf e,b];exact ih
theorem KT.repl {H:Hp} {kvs:List (List Key×V)} {xs:List (List Key×Addr×Value)} (r:KT H kvs xs) (k:List Key) {y:V} {u:Value} (ry:RelV y u):
  KT H (kvs.map λkv=>if kv.1=k then (kv.1,y) else kv) (xs.map (putAt k u)):=by
 induction r with
 | nil=>exact .nil
 | @cons p q ps qs h t ih=>
  rw[aao,aao];refine .cons ?_ ih;obtain ⟨h1,h2,h3⟩:=h;unfold putAt;by_cases e:p.1=k
  ·rw[if_pos e,if_pos (h1.symm.trans e)];exact ⟨h1,h2,ry⟩
  ·rw[if_neg e,if_neg (λz=>e (h1.trans z))];exact ⟨h1,h2,h3⟩
theorem KT.put {H:Hp} {kvs:List (List Key×V)} {xs:List (List Key×Addr×Value)} (r:KT H kvs xs) (k:List Key) {b:Addr} {y:V} {u:Value} (hb:H b=some (.tup (k.map kV))) (ry:RelV y u):
  KT H (putK kvs k y) (storedH xs k b u):=by
 have e:(kvs.any λkv=>decide (kv.1=k))=(atKey xs k).isSome:=by
  rw[lg,(r.val k).jk,ae5]
 unfold putK storedH;rw[e];by_cases q:(atKey xs k).isSome=true
 ·rw[if_pos q,if_pos q];exact r.repl k ry
 ·rw[if_neg q,if_neg q];exact Paired.snoc r ⟨rfl,hb,ry⟩
theorem KT.keeps {H H':Hp} {kvs:List (List Key×V)} {xs:List (List Key×Addr×Value)} (r:KT H kvs xs) (ht:∀b ys,H b=some (.tup ys)→H' b=some (.tup ys)):KT H' kvs xs:=
 Paired.mapP r λ_ _ z=>⟨z.1,ht _ _ z.2.1,z.2.2⟩
section
variable {P:Program} {w:World} {H:Hp} {h:Heap} {a:Addr}
theorem rd_of {u:HO} (ok:HOk P w H h) (e:Rd H a u):b4 P w H h a u:=e.ok ok
theorem uq {kvs:List (Key×V)} (ok:HOk P w H h) (e:Rd H a (.dK kvs)):kvs.length≤sizeLine∧(a==sysModules)=false∧∃vs,KV kvs vs∧h.DictOf (bu P w) a vs:=
 show b4 P w H h a (.dK kvs) from rd_of ok e
theorem El {kvs:List (Key×V)} (ok:HOk P w H h) (e:H a=some (.dK kvs)):kvs.length≤sizeLine∧(a==sysModules)=false∧∃vs,KV kvs vs∧h.DictOf (bu P w) a vs:=uq ok (.inl e)
theorem oo {ks:List Key} (ok:HOk P w H h) (e:H a=some (.tup (ks.map kV))):(tupleKind (bu P w)).is h ks a:=by
 obtain ⟨_,its,r,o,h1,h2,n,h3,_⟩:=(show b4 P w H h a (.tup (ks.map kV)) from ok a _ e);exact ⟨o,its.toArray,n,h1,h2,h3,by simpa using t7 r⟩
theorem ua {kvs:List (List Key×V)} (ok:HOk P w H h) (e:Rd H a (.dT kvs)):kvs.length≤sizeLine∧(a==sysModules)=false∧
  ∃xs,KT H kvs xs∧h.DictOfH (tupleKind (bu P w)) a xs:=by
 obtain ⟨z,y,xs,r,o,es,ep,h1,h2,h3,h4,h5⟩:=(show b4 P w H h a (.dT kvs) from rd_of ok e);refine ⟨z,y,xs,r,o,es,ep,h1,h2,h3,h4,λx hx=>?_,h5⟩;have all:∀{l:List (List Key×V)} {m:List (List Key×Addr×Value)},KT H l m→∀x∈m,(tupleKind (bu P w)).is h x.1 x.2.1:=by
  intro l m q;induction q with
  | nil=>intro x hx;exact nomatch hx
  | @cons p q ps qs hq t ih=>
   intro x hx;rcases List.mem_cons.mp hx with e | hx
   ·subst e;exact oo ok (by rw[←hq.1];exact hq.2.1)
   ·exact ih x hx
 exact all r x hx
theorem dt_of {kvs:List (List Key×V)} (ok:HOk P w H h) (e:H a=some (.dT kvs)):kvs.length≤sizeLine∧(a==sysModules)=false∧
  ∃xs,KT H kvs xs∧h.DictOfH (tupleKind (bu P w)) a xs:=ua ok (.inl e)
end
def jw (H:Hp) (a:Addr) (y:V) (r:Option V):Prop:=
 (∃kvs k,Rd H a (.dK kvs)∧y=kV k∧r=bz kvs k)∨∃kvs k b,Rd H a (.dT kvs)∧y=.ref b∧H b=some (.tup (k.map kV))∧r=bz kvs k
def zf (H:Hp) (a:Addr) (y v:V) (H':Hp):Prop:=
 (∃kvs k,H a=some (.dK kvs)∧y=kV k∧kvs.length < sizeLine∧H'=upd H a (.dK (putK kvs k v)))∨
 ∃kvs k b,H a=some (.dT kvs)∧y=.ref b∧H b=some (.tup (k.map kV))∧kvs.length < sizeLine∧H'=upd H a (.dT (putK kvs k v))
theorem jw.k {H:Hp} {a:Addr} {kvs:List (Key×V)} {k:Key} (e:H a=some (.dK kvs)):jw H a (kV k) (bz kvs k):=.inl ⟨kvs,k,.inl e,rfl,rfl⟩
theorem zf.k {H:Hp} {a:Addr} {kvs:List (Key×V)} {k:Key} {v:V} (e:H a=some (.dK kvs)) (hl:kvs.length < sizeLine):zf H a (kV k) v (upd H a (.dK (putK kvs k v))):=.inl ⟨kvs,k,e,rfl,hl,rfl⟩
section
variable {X:Cx} {pins:List (Addr×Obj)} {σ:St} {H:Hp} {s:Shared} {a:Addr} {y v:V} {u r:Value} {o:Option V} {A:Around} {E:Value→Shared→Prop}
theorem Inv.big (I:Inv X pins σ H s):sysModules < s.heap.objs.size:=by
 have h:mainGlobals < s.heap.objs.size:=(I.mod.glob.keeps I.bk).lt;exact Nat.lt_trans (by decide) h
theorem Gx {Q:Value→Shared→Prop} (hu:A.units+1 < cLine) (I:Inv X pins σ H s) (g:jw H a y (some v)) (ry:RelV y u) (h:∀w' s',Inv X pins σ H s'→RelV v w'→Q w' s'):
  wpAny (model X.prog X.w) A (getItem (.ref a) u) Q E s:=by
 rcases g with ⟨kvs,k,e,ey,l⟩ | ⟨kvs,k,b,e,ey,eb,l⟩
 ·subst ey;obtain ⟨z,hd,vs,rel,dd⟩:=uq I.hok e;obtain ⟨w',hw,rw'⟩:=dq.some_of (v:=v) (o:=valueAt vs k) (by rw[l];exact rel.val k);exact wpAny_getItem_of (j8 ry) dd.mapOf hw (h w' _ (I.tok _) rw')
 ·subst ey;cases (show u=Value.ref b from ry)
  obtain ⟨z,hd,xs,rel,dd⟩:=ua I.hok e;obtain ⟨w',hw,rw'⟩:=dq.some_of (v:=v) (o:=(atKey xs k).map (·.2)) (by rw[l];exact rel.val k);obtain ⟨p,hp,hp2⟩:=Option.map_eq_some_iff.mp hw;refine wpAny_getItem_heap (tupleKind_room_in1 hu) (oo I.hok eb) dd hp ?_;rw[hp2];exact h w' _ (I.tok _) rw'
theorem Mm {Q:Value→Shared→Prop} (hu:A.units+1 < cLine) (I:Inv X pins σ H s) (g:jw H a y o) (ry:RelV y u) (h:∀s',Inv X pins σ H s'→Q (.bool (!o.isSome)) s'):
  wpAny (model X.prog X.w) A (compareOp .NotIn u (.ref a)) Q E s:=by
 rcases g with ⟨kvs,k,e,ey,l⟩ | ⟨kvs,k,b,e,ey,eb,l⟩
 ·subst ey;obtain ⟨z,hd,vs,rel,dd⟩:=uq I.hok e;refine wpAny_notIn_of (j8 ry) hd dd.mapOf ?_;rw[←(rel.val k).jk,←l];exact h _ (I.tok _)
 ·subst ey;cases (show u=Value.ref b from ry)
  obtain ⟨z,hd,xs,rel,dd⟩:=ua I.hok e;refine wpAny_notIn_heap (tupleKind_room_in1 hu) (oo I.hok eb) hd dd ?_;have q:=(rel.val k).jk;rw[ae5] at q;rw[←q,←l];exact h _ (I.tok _)
theorem n4 {h':Heap} {t':Nat} {ob:HO} (I:Inv X pins σ H s) (mu:Mut (H a)) (hs:Heap.SameBut a s.heap h') (he:∃q,h'.get? a=some q) (new:b4 X.prog X.w (upd H a ob) h' a ob):
  Inv X pins σ (upd H a ob) { s with heap:=h',toks:=t' }:=
 I.write (x:=a) (e:=a) mu (.inl rfl) (λb q hb z=>(hs.2 b hb).trans z) he new
theorem Bo {P:Program} {w:World} {H':Hp} {h':Heap} {kvs:List (Key×V)} {vs:List (Key×Value)} (z:kvs.length≤sizeLine) (hd:(a==sysModules)=false) (rel:KV kvs vs) (dd:h'.DictOf (bu P w) a vs):
  b4 P w H' h' a (.dK kvs):=⟨z,hd,vs,rel,dd⟩
theorem Fz {H':Hp} {Q:Unit→Shared→Prop} (hu:A.units+1 < cLine) (I:Inv X pins σ H s) (g:zf H a y v H') (ry:RelV y u) (rv:RelV v r) (h:∀s',Inv X pins σ H' s'→Q () s'):
  wpAny (model X.prog X.w) A (setItem (.ref a) u r) Q E s:=by
 rcases g with ⟨kvs,k,e,ey,l,eH⟩ | ⟨kvs,k,b,e,ey,eb,l,eH⟩
 ·subst ey eH;obtain ⟨z,hd,vs,rel,dd⟩:=El I.hok e;have hz:vs.length≤sizeLine:=by rw[←rel.length];exact z
  have hl:(putK kvs k v).length≤sizeLine:=by have:=d6 kvs k v;omega
  refine wpAny_setItem_pairs (hsz:=hz) (j8 ry) dd λh' dd' hs=>h _ ?_;have he:∃q,h'.get? a=some q:=let ⟨q,_,_,hq,_⟩:=dd';⟨q,hq⟩
  exact n4 I (by rw[e];exact True.intro) hs he (Bo hl hd (rel.put k rv) dd')
 ·subst ey eH;cases (show u=Value.ref b from ry)
  obtain ⟨z,hd,xs,rel,dd⟩:=dt_of I.hok e;have hz:xs.length≤sizeLine:=by rw[←Paired.length rel];exact z
  have hl:(putK kvs k v).length≤sizeLine:=by have:=d6 kvs k v;omega
  refine wpAny_setItem_heap (hsz:=hz) (tupleKind_room_in1 hu) (oo I.hok eb) dd λh' dd' hs=>h _ ?_;obtain ⟨q,es,ep,hq,h2,h3,h4,_,h5⟩:=dd';refine n4 I (by rw[e];exact True.intro) hs ⟨q,hq⟩ ⟨hl,hd,_,(rel.put k eb rv).keeps λc ys ec=>?_,q,es,ep,hq,h2,h3,h4,h5⟩;rw[ai (ui ec e (λz=>nomatch z))];exact ec
end
section
variable {X:Cx} {pins:List (Addr×Obj)} {σ:St} {H:Hp} {s:Shared} {a:Addr} {kvs:List (Key×V)} {k:Key} {u:Value} {A:Around} {E:Value→Shared→Prop}
theorem d_pop {v:V} {more:List Value} {Q:Value→Shared→Prop} (I:Inv X pins σ H s) (e:H a=some (.dK kvs)) (ry:RelV (kV k) u) (l:bz kvs k=some v) (hm:more=[]∨∃x,more=[x])
  (h:∀w' s',Inv X pins σ (upd H a (.dK (iz kvs k))) s'→RelV v w'→Q w' s'):wpAny (model X.prog X.w) A (call (.builtin "dict.pop") (.ref a::u::more)) Q E s:=by
 obtain ⟨z,hd,vs,rel,dd⟩:=El I.hok e;obtain ⟨w',hw,rw'⟩:=dq.some_of (v:=v) (o:=valueAt vs k) (by rw[←l];exact rel.val k);have hp:(keyPart u).isSome=true:=by
  cases k with
  | inl i=>obtain ⟨t,q⟩:=(show ∃t,u=Value.int i t from ry);subst q;rfl
  | inr x=>obtain ⟨t,q⟩:=(show ∃t,u=Value.str x t from ry);subst q;rfl
 have ha:argsOk "dict.pop" ⟨.ref a::u::more,[]⟩:=by
  rcases hm with q | ⟨x,q⟩
  ·subst q;exact PySem.F.args_dict_pop_2 _ _
  ·subst q;exact PySem.F.args_dict_pop_3 _ _ _
 refine call_meetsIn PySem.F.slot_dict_pop dd.typeIs PySem.F.entry_dict_pop ha (meets_dict_pop_there (bu X.prog X.w) a (j8 ry) more hm hp)
  ⟨vs,w',dd,by rw[←rel.length];exact z,hw,λh' dd' hs=>h w' _ ?_ rw'⟩
 have he:∃q,h'.get? a=some q:=let ⟨q,_,_,hq,_⟩:=dd';⟨q,hq⟩
 exact n4 I (by rw[e];exact True.intro) hs he (Bo (aak (Ad kvs k) z) hd (rel.drop k) dd')
theorem d_popD {r:Value} {Q:Value→Shared→Prop} (I:Inv X pins σ H s) (e:H a=some (.dK kvs)) (ry:RelV (kV k) u) (l:bz kvs k=none) (h:∀s',Inv X pins σ H s'→Q r s'):
  wpAny (model X.prog X.w) A (call (.builtin "dict.pop") [.ref a,u,r]) Q E s:=by
 obtain ⟨z,hd,vs,rel,dd⟩:=El I.hok e;have hn:valueAt vs k=none:=dq.none_of (by rw[←l];exact rel.val k);have hp:(keyPart u).isSome=true:=by
  cases k with
  | inl i=>obtain ⟨t,q⟩:=(show ∃t,u=Value.int i t from ry);subst q;rfl
  | inr x=>obtain ⟨t,q⟩:=(show ∃t,u=Value.str x t from ry);subst q;rfl
 exact call_meetsIn PySem.F.slot_dict_pop dd.typeIs PySem.F.entry_dict_pop (PySem.F.args_dict_pop_3 _ _ _) (meets_dict_pop_default (bu X.prog X.w) a (j8 ry) hd hp r) ⟨vs,dd,hn,h _ (I.tok _)⟩
end
def NoSl (i:Expr):Prop:=∀ov iv,subscripted i false ov iv=operate [ov,iv] (getItem ov iv)
theorem M4 {prog:Program} {w:World} {A:Around} {E:Value→Shared→Prop} {s:Shared} {env:Env} {value slice:Expr} {pos:Pos} {T id:String} {Q:Value→Shared→Prop}
  (hl:typeLookup (.type T) "__getitem__"=pure (some (.builtin id))) (hs:NoSl slice)
  (h:wpAny (model prog w) A (eval value env) (λo s₁=>wpAny (model prog w) A (eval slice env) (λi s₂=>s₂.TypeIs o T∧wpAny (model prog w) A (getItem o i) Q E s₂) E s₁) E s):
  wpAny (model prog w) A (eval (.Subscript value slice pos) env) Q E s:=by
 refine Subscript_ (wpAny_mono h (λo s₁ h₁=>wpAny_mono h₁ (λi s₂ h₂=>?_) λ_ _ x=>x) λ_ _ x=>x);obtain ⟨hT,h₂⟩:=h₂;unfold subscriptTail;refine wpAny_bind ?_;rw[getitemInPython_of_ne hT.not_modules];refine wpAny_bind (wpAny_specialOf hT hl ?_);have fin:wpAny (model prog w) A (subscripted slice false o i) (λr s₃=>wpAny (model prog w) A (letTemporaryGo value o r >>=λ_=>pure r) Q E s₃) E s₂:=by
  rw[hs o i];exact wpAny_operating (wpAny_mono h₂ (λr s₃ h₃=>wpAny_bind (wpAny_letTemporaryGo (wpAny_pure h₃))) λ_ _ x=>x)
 first
  | exact wpAny_pure (wpAny_bind fin)
  | exact wpAny_bind (wpAny_pure (wpAny_bind fin))
  | exact wpAny_bind fin
theorem zy {X:Cx} {pins:List (Addr×Obj)} {σ:St} {H:Hp} {s:Shared} {a:Addr} {y:V} {o:Option V} (I:Inv X pins σ H s) (g:jw H a y o):s.TypeIs (.ref a) "dict":=by
 rcases g with ⟨kvs,k,e,_,_⟩ | ⟨kvs,k,b,e,_,_,_⟩
 ·obtain ⟨_,_,vs,_,dd⟩:=uq I.hok e;exact dd.typeIs
 ·obtain ⟨_,_,xs,_,dd⟩:=ua I.hok e;exact dd.typeIs
def tDGet (td ty:TE):TE:=λσ H Q=>td σ H λx H1=>ty σ H1 λy H2=>∃a v,x=.ref a∧jw H2 a y (some v)∧Q v H2
def tDIn (ty td:TE):TE:=λσ H Q=>ty σ H λy H1=>td σ H1 λx H2=>∃a o,x=.ref a∧jw H2 a y o∧Q (.bl o.isSome) H2
def Dg (ty td:TE):TE:=λσ H Q=>ty σ H λy H1=>td σ H1 λx H2=>∃a o,x=.ref a∧jw H2 a y o∧Q (.bl (!o.isSome)) H2
def sDPut (td ty tv:TE):TS:=λD σ H=>tv σ H λv H1=>td σ H1 λx H2=>ty σ H2 λy H3=>∃a H4,x=.ref a∧zf H3 a y v H4∧D.nx σ H4
section
variable {X:Cx} {o i e value:Expr} {pos pos' tpos:Pos} {td ty tv:TE}
theorem Lm (hu:X.A.units+1 < cLine) (ho:PE X o td) (hi:PE X i ty) (hs:NoSl i):PE X (.Subscript o i pos) (tDGet td ty):=by
 intro pins s σ H Q I h;refine M4 PySem.F.slot_dict_getitem.lookup hs (thn (ho pins s σ H _ I h) λu s1 ⟨x,H1,I1,rx,q1⟩=>thn (hi pins s1 σ H1 _ I1 q1) λiv s2 ⟨y,H2,I2,ry,a,v,ex,g,q2⟩=>?_);subst ex;obtain rfl:u=Value.ref a:=rx;exact ⟨zy I2 g,Gx hu I2 g ry λw' s3 I3 rw'=>⟨v,H2,I3,rw',q2⟩⟩
theorem Gd (hu:X.A.units+1 < cLine) (hi:PE X i ty) (ho:PE X o td):PC X .NotIn i o (Dg ty td):=by
 intro pins s σ H Q I h;refine thn (hi pins s σ H _ I h) λiv s1 ⟨y,H1,I1,ry,q1⟩=>thn (ho pins s1 σ H1 _ I1 q1) λu s2 ⟨x,H2,I2,rx,a,ov,ex,g,q2⟩=>?_;subst ex;obtain rfl:u=Value.ref a:=rx;exact Mm hu I2 g ry λs3 I3=>⟨.bl (!ov.isSome),H2,I3,rfl,q2⟩
theorem M0 (hu:X.A.units+1 < cLine) (ho:PE X o td) (hi:PE X i ty) (hv:PE X value tv) (hs:swapsWith value (some (.Subscript o i pos')) pos.line X.env=pure false):
  PS X (.Assign [.Subscript o i pos'] value pos) (sDPut td ty tv):=by
 intro pins s σ H D I h;refine wpAny_Assign_Subscript (thn (hv pins s σ H _ I h) λr s1 ⟨v,H1,I1,rv,q1⟩=>thn (ho pins s1 σ H1 _ I1 q1) λu s2 ⟨x,H2,I2,rx,q2⟩=>thn (hi pins s2 σ H2 _ I2 q2) λiv s3 ⟨y,H3,I3,ry,a,H4,ex,g,q3⟩=>?_) hs;subst ex;obtain rfl:u=Value.ref a:=rx;exact Fz hu I3 g ry rv λs4 I4=>⟨σ,H4,I4,q3⟩
end
theorem yx {P:Program} {w:World} {H:Hp} (h:Heap) (hb:sysModules < h.objs.size):b4 P w H (h.push { cls:=.type "dict",data:=.dict #[] }) h.objs.size (.dK []):=
 ⟨ab7 _,beq_eq_false_iff_ne.mpr (Ne.symm (aas hb)),[],.nil,Heap.DictOf.new h⟩
def Kv:TE:=λ_ H Q=>∀p,H p=none→Q (.ref p) (upd H p (.dK []))
section
variable {X:Cx} {pos:Pos}
theorem zq:PE X (.Dict [] [] pos) Kv:=λpins s σ H Q I h=>
 wpAny_Dict_empty ⟨.ref s.heap.objs.size,_,I.laid (a:=s.heap.objs.size) (o:=.dK []) (t':=s.toks) (λ_ _ q=>Heap.get?_push_of_some _ q) (aa3 _) (yx s.heap I.big),rfl,h _ (I.hok.fresh (aa3 _))⟩
end
def qq:List (TE×TE)→St→Hp→(List (V×V)→Hp→Prop)→Prop
 | [],_,H,Q=>Q [] H
 | (tk,tv)::r,σ,H,Q=>tk σ H λx H1=>tv σ H1 λy H2=>qq r σ H2 λps H3=>Q ((x,y)::ps) H3
abbrev VV:List (V×V)→List (Value×Value)→Prop:=Paired λp q=>RelV p.1 q.1∧RelV p.2 q.2
def PPs (X:Cx) (pos:Pos) (keys:List (Option Expr)) (values:List Expr) (trs:List (TE×TE)):Prop:=
 ∀(pins:List (Addr×Obj)) (s:Shared) (σ:St) (H:Hp) (Q:List (V×V)→Hp→Prop),Inv X pins σ H s→qq trs σ H Q→
  wpAny (model X.prog X.w) X.A (evalPairs (pairTrees keys values X.env pos)) (λvs s'=>∃ps H',Inv X pins σ H' s'∧VV ps vs∧Q ps H') X.xe s
theorem Ex {X:Cx} {pos:Pos}:PPs X pos [] [] []:=λpins s σ H Q I h=>pairTrees_nil_walk ⟨[],H,I,.nil,h⟩
theorem Kr {X:Cx} {pos:Pos} {k v:Expr} {ks:List (Option Expr)} {vs:List Expr} {tk tv:TE} {trs:List (TE×TE)} (hk:PE X k tk) (hv:PE X v tv) (hr:PPs X pos ks vs trs):
  PPs X pos (some k::ks) (v::vs) ((tk,tv)::trs):=λpins s σ H Q I h=>
 pairTrees_cons_walk (thn (hk pins s σ H _ I h) λu s1 ⟨x,H1,I1,rx,q1⟩=>thn (hv pins s1 σ H1 _ I1 q1) λw2 s2 ⟨y,H2,I2,ry,q2⟩=>
  thn (hr pins s2 σ H2 _ I2 q2) λws s3 ⟨ps,H3,I3,rel,q3⟩=>⟨(x,y)::ps,H3,I3,.cons ⟨rx,ry⟩ rel,q3⟩)
noncomputable def d8 (kvs more:List (Key×V)):List (Key×V):=more.foldl (λacc kv=>putK acc kv.1 kv.2) kvs
theorem KV.merge:∀{more:List (Key×V)} {rs:List (Key×Value)} {kvs:List (Key×V)} {vs:List (Key×Value)},KV more rs→KV kvs vs→KV (d8 kvs more) (merged vs rs):=by
 intro more rs kvs vs r;unfold KV at r;induction r generalizing kvs vs with
 | nil=>intro q;exact q
 | @cons p q ps qs h t ih=>
  intro r0;have e:KV (putK kvs p.1 p.2) (stored vs q.1 q.2):=by
   have:=r0.put p.1 h.2;rw[←h.1];exact this
  exact ih e
theorem jz:∀(more kvs:List (Key×V)),(d8 kvs more).length≤kvs.length+more.length
 | [],kvs=>by show kvs.length≤kvs.length+0;omega
 | p::r,kvs=>by
  have h1:=jz r (putK kvs p.1 p.2);have h2:=d6 kvs p.1 p.2;show (d8 (putK kvs p.1 p.2) r).length≤_
  rw[aa8];omega
theorem p9 {P:Program} {w:World}:∀{kvs:List (Key×V)} {ws:List (Value×Value)},VV (kvs.map λkv=>(kV kv.1,kv.2)) ws→∃rs,Carries (bu P w) ws rs∧KV kvs rs
 | [],_,r=>by rw[acg] at r;cases r;exact ⟨[],True.intro,.nil⟩
 | p::kvs,_,r=>by
  rw[aao] at r;cases r with
  | @cons a b as bs h t=>
   obtain ⟨rs,c,q⟩:=p9 (P:=P) (w:=w) t;obtain ⟨b1,b2⟩:=b;exact ⟨(p.1,b2)::rs,⟨j8 h.1,rfl,c⟩,.cons ⟨rfl,h.2⟩ q⟩
def tDisp (trs:List (TE×TE)):TE:=λσ H Q=>∀p,H p=none→qq trs σ (upd H p (.dK [])) λps H2=>H2 p=some (.dK [])∧∃kvs:List (Key×V),ps=kvs.map (λkv=>(kV kv.1,kv.2))∧kvs.length≤15∧Q (.ref p) (upd H2 p (.dK (d8 [] kvs)))
theorem Dr {X:Cx} {pos:Pos} {keys:List (Option Expr)} {values:List Expr} {trs:List (TE×TE)} (h:PPs X pos keys values trs) (hall:keys.all (·.isSome)=true) (hl:keys.length=values.length) (h0:keys≠[])
  (h15:keys.length≤15):PE X (.Dict keys values pos) (tDisp trs):=by
 intro pins s σ H Q I q;have hn:=I.hok.fresh (aa3 s.heap.objs.size);have I1:=I.laid (a:=s.heap.objs.size) (o:=.dK []) (h':=s.heap.push { cls:=.type "dict",data:=.dict #[] }) (t':=s.toks) (λ_ _ q=>Heap.get?_push_of_some _ q) (aa3 _) (yx s.heap I.big);refine wpAny_Dict_walk (knd:=bu X.prog X.w) hall hl h0 h15 (thn (h pins _ σ _ _ I1 (q _ hn)) λws s2 ⟨ps,H2,I2,rel,e,kvs,ep,lk,q2⟩=>?_);subst ep;obtain ⟨rs,c,rk⟩:=p9 (P:=X.prog) (w:=X.w) rel;obtain ⟨z,hd,vs0,r0,dd⟩:=El I2.hok e;cases r0
 refine ⟨rs,c,dd,λh' dd' hs=>⟨.ref s.heap.objs.size,_,?_,rfl,q2⟩⟩;have hz:(d8 [] kvs).length≤sizeLine:=by
  have h1:=jz kvs [];rw[abg] at h1;rw[sizeLine_eq];omega
 have he:∃q,h'.get? s.heap.objs.size=some q:=let ⟨q,_,_,hq,_⟩:=dd';⟨q,hq⟩
 exact n4 I2 (by rw[e];exact True.intro) hs he (Bo hz hd (rk.merge .nil) dd')
structure M2 (X:Cx) (o:Expr) (m:Str) (apos:Pos) (e f:Expr) (cpos:Pos):Prop where
 base:attributeBase o m X.env (eval o X.env)=eval o X.env
 few:((backTo cpos (starEach [e,f] X.env)).all (λx=>!x.1)&&(backToKw cpos (keywordEach [] X.env)).all (λx=>x.1.isSome)
  &&decide (([e,f]:List Expr).length+([]:List Keyword).length+(if ([]:List Keyword).isEmpty then 0 else 1) < 30))=true
 line:(apos.endLine==cpos.line)=true
 trees:backTo cpos (starEach [e,f] X.env)=[(false,eval e X.env),(false,eval f X.env)]
def IsD (H:Hp) (a:Addr):Prop:=(∃kvs,Rd H a (.dK kvs))∨∃kvs,Rd H a (.dT kvs)
theorem isD_at {X:Cx} {pins:List (Addr×Obj)} {σ:St} {H:Hp} {s:Shared} {a:Addr} (I:Inv X pins σ H s) (d:IsD H a):
  s.TypeIs (.ref a) "dict"∧(∀b,Value.ref a=.ref b→∃ob,s.heap.get? b=some ob∧ob.dict=none)∧(a==sysModules)=false:=by
 rcases d with ⟨kvs,e⟩ | ⟨kvs,e⟩
 ·obtain ⟨_,hd,vs,_,dd⟩:=uq I.hok e;refine ⟨dd.typeIs,λb q=>?_,hd⟩;cases q
  obtain ⟨ob,_,_,h1,h2,_⟩:=dd;exact ⟨ob,h1,h2.2.1⟩
 ·obtain ⟨_,hd,xs,_,dd⟩:=ua I.hok e;refine ⟨dd.typeIs,λb q=>?_,hd⟩;cases q
  obtain ⟨ob,_,_,h1,h2,_⟩:=dd;exact ⟨ob,h1,h2.2.1⟩
def Bz (td ty tx:TE):TE:=λσ H Q=>td σ H λx H1=>∃a,x=.ref a∧IsD H1 a∧ty σ H1 λy H2=>tx σ H2 λz H3=>∃kvs k,H3 a=some (.dK kvs)∧y=kV k∧
 (∀v,bz kvs k=some v→Q v (upd H3 a (.dK (iz kvs k))))∧(bz kvs k=none→Q z H3)
section
variable {X:Cx} {o e f:Expr} {apos cpos:Pos} {td ty tx:TE}
theorem Jy (ho:PE X o td) (he:PE X e ty) (hf:PE X f tx) (m:M2 X o "pop" apos e f cpos):PE X (.Call (.Attribute o "pop" apos) [e,f] [] cpos) (Bz td ty tx):=by
 intro pins s σ H Q I h;refine wpAny_Call_method m.base m.few m.line PySem.F.plainAttrs_dict PySem.F.slot_dict_pop PySem.F.type_dict_pop (thn (ho pins s σ H _ I h) λu s1 ⟨x,H1,I1,rx,a,ex,d,q1⟩=>?_);subst ex;obtain rfl:u=Value.ref a:=rx;obtain ⟨t1,t2,_⟩:=isD_at I1 d;refine ⟨t1,t2,?_⟩;rw[m.trees];refine Calls.callWith_builtin rfl (Calls.evalArgs_plain (Calls.spliced_cons (thn (he pins s1 σ H1 _ I1 q1) λiv s2 ⟨y,H2,I2,ry,q2⟩=>
  Calls.spliced_cons (thn (hf pins s2 σ H2 _ I2 q2) λfv s3 ⟨z,H3,I3,rz,kvs,k,ea,ey,q3,q4⟩=>Calls.spliced_nil ?_))))
 subst ey;cases l:bz kvs k with
 | some v=>exact d_pop I3 ea ry l (.inr ⟨fv,rfl⟩) λw' s4 I4 rw'=>⟨v,_,I4,rw',q3 v l⟩
 | none=>exact d_popD I3 ea ry l λs4 I4=>⟨z,H3,I4,rz,q4 l⟩
end
def j3 (i:Nat):TE:=λσ H Q=>match σ[i]? with | some (some v)=>Q v H | _=>False
theorem pvD {X:Cx} (i:Nat) {x:Str} {pos:Pos} (hN:X.N[i]?=some x) (hv:Vis X.env.scope x) (hd:(x==("__debug__":Str))=false) (hcd:(x==("__classdict__":Str))=false):PE X (.Name x pos) (j3 i):=λpins s σ H Q I h=>pv i hN hv hd hcd pins s σ H Q I (by
 unfold j3 at h;split at h
 ·exact ⟨_,‹_›,h⟩
 ·exact h.elim)
theorem su {i:Nat} {σ:L2.St} {H:Hp} {Q:VK}:j3 i σ H Q=∃v,σ[i]?=some (some v)∧Q v H:=by
 unfold j3;refine propext ⟨λh=>?_,λ⟨v,e,h⟩=>?_⟩
 ·split at h
  ·exact ⟨_,‹_›,h⟩
  ·exact h.elim
 ·rw[e];exact h
theorem Gr {α:Type} {a:α} {x y:List α}:(a::x=a::y)=(x=y):=propext ⟨λh=>(ab5 h).2,λh=>by rw[h]⟩
theorem Ln {α:Type} {a b:α}:([a]=[b])=(a=b):=propext ⟨λh=>(ab5 h).1,λh=>by rw[h]⟩
theorem Li {α:Type} {a b c d:α}:([a,c]=[b,d])=(a=b∧c=d):=propext ⟨λh=>⟨(ab5 h).1,(ab5 (ab5 h).2).1⟩,λ⟨h,k⟩=>by rw[h,k]⟩
theorem Mb {α:Type} {a b c d e f:α}:([a,c,e]=[b,d,f])=(a=b∧c=d∧e=f):=propext ⟨λh=>⟨(ab5 h).1,(ab5 (ab5 h).2).1,(ab5 (ab5 (ab5 h).2).2).1⟩,λ⟨h,k,l⟩=>by rw[h,k,l]⟩
theorem int_ex {a:Int} {p:Int→Prop}:(∃x,V.int a=V.int x∧p x)=p a:=propext ⟨λ⟨x,e,h⟩=>by cases e;exact h,λh=>⟨a,rfl,h⟩⟩
theorem ref_ex {a:Addr} {p:Addr→Prop}:(∃x,V.ref a=V.ref x∧p x)=p a:=propext ⟨λ⟨x,e,h⟩=>by cases e;exact h,λh=>⟨a,rfl,h⟩⟩
theorem bl_ex {a:Bool} {p:Bool→Prop}:(∃x,V.bl a=V.bl x∧p x)=p a:=propext ⟨λ⟨x,e,h⟩=>by cases e;exact h,λh=>⟨a,rfl,h⟩⟩
theorem Ld {a b:Int} {p:Int→Int→Prop}:(∃x y,V.int a=V.int x∧V.int b=V.int y∧p x y)=p a b:=propext ⟨λ⟨x,y,e,e2,h⟩=>by cases e;cases e2;exact h,λh=>⟨a,b,rfl,rfl,h⟩⟩
theorem ifY {c:Prop} [Decidable c] {A B:Prop} (hc:c) (h:A):if c then A else B:=by rw[if_pos hc];exact h
theorem ifN {c:Prop} [Decidable c] {A B:Prop} (hc:¬c) (h:B):if c then A else B:=by rw[if_neg hc];exact h
theorem us0 {α:Type} {P:List α→Prop} {us:List α} (hl:us.length=0) (h:P []):P us:=by
 rw[List.length_eq_zero_iff.mp hl];exact h
theorem usS {α:Type} {P:List α→Prop} {us:List α} {n:Nat} (hl:us.length=n+1) (h:∀a us,us.length=n→P (a::us)):P us:=by
 cases us with
 | nil=>exact absurd hl.symm (Nat.succ_ne_zero n)
 | cons a l=>exact h a l (adf hl)
theorem us1 {α:Type} {P:List α→Prop} {us:List α} (hl:us.length=1) (h:∀a,P [a]):P us:=usS hl λa us hl=>us0 (P:=λus=>P (a::us)) hl (h a)
theorem us2 {α:Type} {P:List α→Prop} {us:List α} (hl:us.length=2) (h:∀a b,P [a,b]):P us:=usS hl λa us hl=>us1 (P:=λus=>P (a::us)) hl (h a)
theorem us3 {α:Type} {P:List α→Prop} {us:List α} (hl:us.length=3) (h:∀a b c,P [a,b,c]):P us:=usS hl λa us hl=>us2 (P:=λus=>P (a::us)) hl (h a)
def vm (g:Int→Int→V):R2:=λx y H Q=>match x,y with | .int i,.int j=>Q (g i j) H | _,_=>False
def rID (C:Int→Int→Prop) (g:Int→Int→V):R2:=λx y H Q=>match x,y with | .int i,.int j=>C i j∧Q (g i j) H | _,_=>False
def rUD (g:Int→V):V→Hp→VK→Prop:=λx H Q=>match x with | .int i=>Q (g i) H | _=>False
def tBD (t:TE):TT:=λσ H Q=>t σ H λx H1=>match x with | .bl c=>Q c H1 | _=>False
def Cs (t:TE):TO:=λσ H Q=>t σ H λx H1=>match x with | .int i=>Q (some i) H1 | _=>False
theorem jh:@vm=@rI0:=by
 funext g x y H Q
 refine propext ⟨λh=>?_,λ⟨i,j,e,f,h⟩=>by subst e;subst f;exact h⟩;unfold vm at h;split at h
 ·exact ⟨_,_,rfl,rfl,h⟩
 ·exact h.elim
theorem wc:@rID=@rI:=by
 funext C g x y H Q
 refine propext ⟨λh=>?_,λ⟨i,j,e,f,h⟩=>by subst e;subst f;exact h⟩;unfold rID at h;split at h
 ·exact ⟨_,_,rfl,rfl,h⟩
 ·exact h.elim
theorem rUD_eq:@rUD=@rU:=by
 funext g x H Q
 refine propext ⟨λh=>?_,λ⟨i,e,h⟩=>by subst e;exact h⟩;unfold rUD at h;split at h
 ·exact ⟨_,rfl,h⟩
 ·exact h.elim
theorem blD {x:V} {Q:Bool→Prop}:(match x with | .bl c=>Q c | _=>False)=∃c,x=.bl c∧Q c:=by
 refine propext ⟨λh=>?_,λ⟨i,e,h⟩=>by subst e;exact h⟩;split at h
 ·exact ⟨_,rfl,h⟩
 ·exact h.elim
theorem Ar:@tBD=@tB:=by
 funext t σ H Q
 exact congrArg (t σ H) (funext λx=>funext λH1=>blD)
theorem E9:@Cs=@Jj:=by
 funext t σ H Q
 refine congrArg (t σ H) (funext λx=>funext λH1=>propext ⟨λh=>?_,λ⟨i,e,h⟩=>by subst e;exact h⟩);split at h
 ·exact ⟨_,rfl,h⟩
 ·exact h.elim
variable {X:Cx}
theorem Mo:OpR X (binaryOp .Add) (vm λi j=>.int (i+j)):=jh ▸ op_add
theorem xo:OpR X (binaryOp .Sub) (vm λi j=>.int (i - j)):=jh ▸ op_sub
theorem ip:OpR X (compareOp .Lt) (vm λi j=>.bl (decide (i < j))):=jh ▸ op_lt
theorem Hq:OpR X (compareOp .LtE) (vm λi j=>.bl (decide (i≤j))):=jh ▸ op_le
theorem g8:OpR X (compareOp .Gt) (vm λi j=>.bl (decide (j < i))):=jh ▸ op_gt
theorem op_geD:OpR X (compareOp .GtE) (vm λi j=>.bl (decide (j≤i))):=jh ▸ op_ge
theorem wq:OpR X (binaryOp .Mult) (rID CMul λi j=>.int (i*j)):=wc ▸ op_mul
theorem Ap:OpR X (binaryOp .FloorDiv) (rID CDiv λi j=>.int (i / j)):=wc ▸ L8
theorem Md:OpR X (binaryOp .Mod) (rID (λ_ j=>0 < j) λi j=>.int (i % j)):=wc ▸ op_mod
theorem Eo:OpR X (binaryOp .Pow) (rID CPow λi j=>.int (i ^ j.toNat)):=wc ▸ op_pow
theorem lj:UnR X (unaryOp .USub) (rUD λi=>.int (-i)):=rUD_eq ▸ un_neg
theorem K9 {e:Expr} {t:TE} (h:PE X e t) (he:∀whole,isTrue e X.env whole=(do let v ←whole;standAt e.pos;holding [v] (truthy v))):PT X e (tBD t):=Ar ▸ pt_val h he
theorem Lb {a b:Expr} {pos:Pos} {op:CmpOp} {t:TE} (h:PC X op a b t) (h1:behindInMarks op b=false):PT X (.Compare a [op] [b] pos) (tBD t):=Ar ▸ pt_cmp h h1
theorem yz {a b:Expr} {ta tb:TE} {pos:Pos} {op:CmpOp} {r:R2} (ho:OpR X (compareOp op) r) (ha:PE X a ta) (hb:PE X b tb) (hm:behindInMarks op b=false):PT X (.Compare a [op] [b] pos) (tBD (tOp r ta tb)):=Ar ▸ Lr ho ha hb hm
theorem Kq {e:Expr} {te:TE} (h:PE X e te):PO X (some e) (Cs te):=E9 ▸ L7 h
def Hz (K:PySem.W.Frag):List V→Hp→VK→Prop:=λxs H Q=>match xs with | [.ref p]=>∃ys,(SqL K H p ys∨SqT K H p ys)∧Q (.int ys.length) H | _=>False
def Js (K:PySem.W.Frag):List V→Hp→VK→Prop:=λxs H Q=>match xs with | [.ref p]=>∃ys,(SqL K H p ys∧∀l,H l=none→Q (.ref l) (upd H l (.tup ys)))∨(SqT K H p ys∧Q (.ref p) H) | _=>False
def Il:List V→Hp→VK→Prop:=λxs H Q=>match xs with | [.int i]=>Q (.int i) H | [.bl k]=>Q (.int (if k then 1 else 0)) H | _=>False
theorem r6:cm X (.builtin "len") (Hz X.K):=by
 refine Eq.mp (congrArg _ ?_) vk;funext xs H Q
 refine propext ⟨λ⟨p,ys,e,h⟩=>by subst e;exact ⟨ys,h⟩,λh=>?_⟩;unfold Hz at h;split at h
 ·exact h.elim λys h=>⟨_,ys,rfl,h⟩
 ·exact h.elim
theorem pj:cm X (.type "tuple") (Js X.K):=by
 refine Eq.mp (congrArg _ ?_) sk;funext xs H Q
 refine propext ⟨λ⟨p,ys,e,h⟩=>by subst e;exact ⟨ys,h⟩,λh=>?_⟩;unfold Js at h;split at h
 ·exact h.elim λys h=>⟨_,ys,rfl,h⟩
 ·exact h.elim
theorem Bx:cm X (.type "int") Il:=by
 refine Eq.mp (congrArg _ ?_) G7;funext xs H Q
 refine propext ⟨λh=>?_,λh=>?_⟩
 ·rcases h with ⟨i,e,h⟩ | ⟨k,e,h⟩ <;> subst e <;> exact h
 unfold Il at h;split at h
 ·exact .inl ⟨_,rfl,h⟩
 ·exact .inr ⟨_,rfl,h⟩
 ·exact h.elim
end L2
namespace L2
open PySem PySem.Spec PyProof.Rows
theorem lookup_mem {α:Type} {x:Str} {c:α}:∀{l:List (Str×α)},l.lookup x=some c→(x,c)∈l
 | [],h=>by cases h
 | (y,d)::r,h=>by
  rw[ac7] at h;cases e:x==y with
  | true=>
   rw[e] at h;have e':x=y:=eq_of_beq e;cases h
   subst e';exact aa6
  | false=>
   rw[e] at h;exact aab _ (lookup_mem h)
noncomputable def r8 (ix:List Nat) (σ:St):St:=ix.map λj=>(σ[j]?).getD none
def SubP (cs:List (Str×Addr)):List (Str×Addr)→Prop
 | []=>True
 | p::r=>cs.lookup p.1=some p.2∧SubP cs r
theorem SubP.of {cs:List (Str×Addr)}:∀{cl:List (Str×Addr)},SubP cs cl→∀p∈cl,cs.lookup p.1=some p.2
 | [],_,_,h=>by cases h
 | p::r,⟨h1,h2⟩,q,hq=>by
  rcases List.mem_cons.mp hq with e | e
  ·rw[e];exact h1
  ·exact SubP.of h2 q e
def Ah (X:Cx) (scope:Scope):List Str→List Nat→Prop
 | [],[]=>True
 | x::fr,j::ix=>(X.N[j]?=some x∧X.env.kindOf x=some .cell∧(relabel scope X.env).names.lookup x=some .cell)∧Ah X scope fr ix
 | _,_=>False
theorem Ah.len {X:Cx} {scope:Scope}:∀{fr:List Str} {ix:List Nat},Ah X scope fr ix→fr.length=ix.length
 | [],[],_=>rfl
 | x::fr,j::ix,h=>by rw[aa8,aa8,Ah.len h.2]
 | [],_::_,h=>h.elim
 | _::_,[],h=>h.elim
theorem Ah.get {X:Cx} {scope:Scope}:∀{fr:List Str} {ix:List Nat},Ah X scope fr ix→∀(k j:Nat),ix[k]?=some j→∃x,fr[k]?=some x∧X.N[j]?=some x∧X.env.kindOf x=some .cell∧(relabel scope X.env).names.lookup x=some .cell
 | [],[],_,k,j,e=>by simp at e
 | x::fr,i::ix,h,0,j,e=>by
  have e':i=j:=by simpa using e
  subst e';exact ⟨x,rfl,h.1⟩
 | x::fr,i::ix,h,k+1,j,e=>by
  obtain ⟨y,hy,r⟩:=Ah.get h.2 k j (by simpa using e);exact ⟨y,by simpa using hy,r⟩
 | [],_::_,h,_,_,_=>h.elim
 | _::_,[],h,_,_,_=>h.elim
structure i5 (X:Cx) (scope:Scope) (own fr:List Str) (ix:List Nat) (cl:List (Str×Addr)):Prop where
 clos:closureFor scope X.env=pure cl
 kind:scope.kind=.function
 nocell:(scope.names.all λy=>decide (y.2≠.cell))=true
 names:(scope.names.all λy=>decide (y.2≠.local)||decide (scope.names.lookup y.1=some .local))=true
 sub:SubP X.env.cells cl
 has:((relabel scope X.env).names.all λy=>!(decide (y.2=.cell)||decide (y.2=.free))||(cl.lookup y.1).isSome)=true
 out':Ah X scope fr ix
section
variable {X:Cx} {scope:Scope} {own fr:List Str} {ix:List Nat} {cl:List (Str×Addr)}
theorem i5.len (C:i5 X scope own fr ix cl):fr.length=ix.length:=C.out'.len
theorem i5.out (C:i5 X scope own fr ix cl):∀(k j:Nat),ix[k]?=some j→∃x,fr[k]?=some x∧X.N[j]?=some x∧Vis X.env.scope x∧X.env.kindOf x≠some .local∧(relabel scope X.env).names.lookup x≠some .local:=λk j e=>by
 obtain ⟨x,h1,h2,h3,h4⟩:=C.out'.get k j e;exact ⟨x,h1,h2,.inr (.inl h3),(by rw[h3];intro z;cases z),(by rw[h4];intro z;cases z)⟩
theorem i5.K4 (C:i5 X scope own fr ix cl):∀x∈scope.names,x.2≠.cell:=λx hx=>of_decide_eq_true (List.all_eq_true.mp C.nocell x hx)
theorem i5.Ht (C:i5 X scope own fr ix cl):∀x∈scope.names,x.2=.local→scope.names.lookup x.1=some .local:=λx hx e=>by
 have h:=List.all_eq_true.mp C.names x hx;rw[adl] at h;rcases h with h | h
 ·exact absurd e (of_decide_eq_true h)
 ·exact of_decide_eq_true h
theorem i5.Af (C:i5 X scope own fr ix cl):∀x c,cl.lookup x=some c→X.env.cells.lookup x=some c:=λx c h=>C.sub.of _ (lookup_mem h)
theorem i5.has' (C:i5 X scope own fr ix cl):∀x,((relabel scope X.env).names.lookup x=some .cell∨(relabel scope X.env).names.lookup x=some .free)→∃c,cl.lookup x=some c:=λx hx=>by
 have key:∀k,(relabel scope X.env).names.lookup x=some k→(k=.cell∨k=.free)→∃c,cl.lookup x=some c:=λk e hk=>by
  have h:=List.all_eq_true.mp C.has (x,k) (lookup_mem e);rw[adl] at h;rcases h with h | h
  ·rcases hk with rfl | rfl
   ·simp at h
   ·simp at h
  ·exact Option.isSome_iff_exists.mp h
 rcases hx with h | h
 ·exact key _ h (.inl rfl)
 ·exact key _ h (.inr rfl)
end
noncomputable def cxC (X:Cx) (scope:Scope) (cl:List (Str×Addr)) (ns:List Str) (fp:List Addr) (s:Shared) (H:Hp):Cx where
 prog:=X.prog
 w:=X.w
 K:=X.K
 mg:=X.mg
 base:=X.base
 A:=X.A
 N:=ns
 s₀:=s
 H₀:=H
 env:=compEnvC scope cl s.heap.objs.size X.env
 outer:=X.stack
 stack:=X.stack
 ex:=fp
 fn:=λ_=>false
 calm:=X.calm
 pn:=[]
 xe:=λ_ _=>False
section
variable {X:Cx} {scope:Scope} {own fr:List Str} {ix:List Nat} {cl:List (Str×Addr)} {pins:List (Addr×Obj)} {σ:St} {H:Hp} {s:Shared} {fp:List Addr}
theorem cxC_ok (C:i5 X scope own fr ix cl) (I:Inv X pins σ H s) (f:∀b∈fp,m9 X pins H b) (lt:∀b∈fp,b < s.heap.objs.size):(cxC X scope cl (own++fr) fp s H).Ok where
 mod:=I.ok.mod
 kind:=C.kind
 glob:=I.ok.glob
 blt:=I.ok.blt
 above:=aa3 _
 inj:=λx y c h1 h2=>I.ok.inj x y c (C.Af x c h1) (C.Af y c h2)
 has:=λx hx=>C.has' x hx
 cab:=λx c h _=>adg h
 hd:=I.ok.hd
 frames:=I.ok.frames
 stk:=.inl rfl
 exf:=λb hb=>⟨aas (lt b hb),λx c e=>(f b hb).2.2.2.2.1 x c (C.Af x c e)⟩
 bs:=λb o e=>I.bs b o e
 bsz:=aak I.ok.bsz I.sz
 noex:=λb o e hb=>by
  rcases (f b hb).2.2.2.1 with z | z
  ·exact I.ok.noex b o e z
  ·exact absurd (aah (Heap.lt_size e) (aak I.ok.bsz z)) (abp _)
 exfs:=λb hb z=>by
  rcases List.mem_cons.mp (I.Bl b z) with q | q
  ·exact (f b hb).2.1 q
  ·exact (f b hb).2.2.1 q
 lz:=I.stack
 frf:=I.yf
theorem Ig (C:i5 X scope own fr ix cl) (I:Inv X pins σ H s) (f:∀b∈fp,m9 X pins H b) (lt:∀b∈fp,b < s.heap.objs.size) {h₁:Heap} {t:Nat} {m:Str→Option Value}
  (hns:h₁.Ns s.heap.objs.size m) (k:∀b o,s.heap.get? b=some o→h₁.get? b=some o):
  Inv (cxC X scope cl (own++fr) fp s H) [] (abd own.length none++r8 ix σ) H { s with heap:=h₁,toks:=t } where
 ok:=cxC_ok C I f lt
 os:=rfl
 bare:=I.bare
 base:=Un.kept k
 loc:=⟨m,hns,λi x v e1 e2 e3=>by
  have e1:(own++fr)[i]?=some x:=e1;by_cases hi:i < own.length
  ·rw[ab6 (by simpa using hi),adi] at e2;rw[if_pos hi] at e2;cases e2
  ·have hi':own.length≤i:=aea hi;rw[aaz (by simpa using hi')] at e2;rw[aaz hi'] at e1;rw[abi] at e2;unfold r8 at e2;rw[aag] at e2;cases q:ix[i - own.length]? with
   | none=>rw[q] at e2;cases e2
   | some j=>
    rw[q] at e2;have e2':(σ[j]?).getD none=some v:=aac e2;obtain ⟨x',hx',hN,hv,hk,hl'⟩:=C.out _ j q;rw[e1] at hx';cases hx'
    have e4:σ[j]?=some (some v):=by
     cases z:σ[j]? with
     | none=>rw[z] at e2';cases e2'
     | some w=>rw[z] at e2';exact congrArg some e2'
    obtain ⟨mX,hnX,hl⟩:=I.loc;obtain ⟨u,r,l⟩:=hl j x v hN e4 hv;rcases l with ⟨kl,_⟩ | ⟨kk,c,ec,z⟩
    ·exact absurd kl hk
    ·have kY:(relabel scope X.env).names.lookup x=some .cell∨(relabel scope X.env).names.lookup x=some .free:=by
      rcases e3 with e3 | e3 | e3
      ·exact absurd e3 hl'
      ·exact .inl e3
      ·exact .inr e3
     obtain ⟨c',hc'⟩:=C.has' x kY;have hcc:=C.Af x c' hc';rw[ec] at hcc;cases hcc
     obtain ⟨o,ho,hd⟩:=z;exact ⟨u,r,.inr ⟨kY,c,hc',⟨o,k c o ho,hd⟩⟩⟩⟩
 cell:=λx c e=>by
  obtain ⟨v,o,ho,hd⟩:=I.cell x c (C.Af x c e);exact ⟨v,o,k c o ho,hd⟩
 free:=I.hok.fresh (aa3 _)
 freeC:=λx c e=>I.freeC x c (C.Af x c e)
 pin:=λp hp=>by cases hp
 hok:=I.hok.kept k
 len:=by
  show (abd own.length none++r8 ix σ).length=(own++fr).length
  rw[aa4,aa4,abi,C.len];unfold r8;rw[aa2]
theorem Ie (I:Inv X pins σ H s) (f:∀b∈fp,m9 X pins H b) {ns:List Str} {τ:St} {H':Hp} {s':Shared} {pins':List (Addr×Obj)} (J:Inv (cxC X scope cl ns fp s H) pins' τ H' s'):Inv X pins σ H' s':=
 I.Kd (ch:=fp) J.os J.base J.hok J.bare λb hb=>⟨(f b hb).2.2.2.1,(f b hb).2.1,(f b hb).2.2.2.2.1,(f b hb).2.2.2.2.2⟩
theorem yp {σ':St} (I:Inv X pins σ H s) {H':Hp} {s':Shared} {h':Heap} (J:Inv X pins σ' H' s') (free:H' s.heap.objs.size=none) (sb:Heap.SameBut s.heap.objs.size s'.heap h'):Inv X pins σ' H' { s' with heap:=h' }:=
 J.turned (it:=s.heap.objs.size) (t':=s'.toks) (λb o hb e=>(sb.2 b hb).trans e) free (aby I.lt) (.inr I.sz)
  (λx c e z=>by
   obtain ⟨v,q⟩:=I.cell x c e;exact absurd (z ▸ q.lt) (abp _))
  (λp hp z=>absurd (z ▸ Heap.lt_size (I.pin p hp).1) (abp _))
end
section
variable {prog:Program} {w:World} {A:Around} {R:Result→Shared→Prop} {s:Shared}
theorem vj {elt target iter:Expr} {ifs:List Expr} {scope:Scope} {pos:Pos} {it acc:Value} {env:Env} (I:Nat→Shared→Prop)
  (turn:∀n s,I n s→wpAny (model prog w) A (pyNext it) (λr s₁=>match r with
   | none=>R (.ok .next) s₁
   | some v=>wpAny (model prog w) A (letOwnedTupleGo target it v) (λ_ s₁'=>wpAny (model prog w) A (assign target env v) (λ_ s₂=>
     wpAny (model prog w) A (forIn ifs true λc r=>if r=true then do let ok ←isTrue c env (eval c env);pure (ForInStep.yield ok) else pure (ForInStep.yield r)) (λok s₃=>
      if ok=true then wpAny (model prog w) A (eval elt env) (λx s₄=>
       wpAny (model prog w) A (call (.builtin "list.append") [acc,x]) (λ_ s₅=>∃m,m < n∧I m s₅) (notedBy (model prog w) A env λe s'=>R (.error e) s') s₄) (notedBy (model prog w) A env λe s'=>R (.error e) s') s₃
      else ∃m,m < n∧I m s₃) (notedBy (model prog w) A env λe s'=>R (.error e) s') s₂) (notedBy (model prog w) A env λe s'=>R (.error e) s') s₁') (notedBy (model prog w) A env λe s'=>R (.error e) s') s₁)
    (notedBy (model prog w) A env λe s'=>R (.error e) s') s)
  (n:Nat) (h:I n s):
  codeAny (model prog w) A (.compLoop (.ListComp elt [⟨target,iter,ifs,0⟩] scope pos) 0 it acc env) R s:=by
 refine codeAny_loop rfl I (λn s hI=>?_) n h;show wpAny _ A ((compTurn (.ListComp elt [⟨target,iter,ifs,0⟩] scope pos) 0 it acc env).onRaise (λx=>do noteFrame x env;theTreesLotGoes x)) _ _ s
 refine wpAny_noted ?_;rw[compTurn_list];refine wpAny_bind (wpAny_standAt (wpAny_bind (wpAny_mono (turn n s hI) (λr s₁ h₁=>?_) λ_ _ h'=>h')));cases r with
 | none=>exact wpAny_pure h₁
 | some v=>
  refine wpAny_bind (wpAny_mono h₁ (λ_ s₁' h₁'=>?_) λ_ _ h'=>h');refine wpAny_bind (wpAny_mono h₁' (λ_ s₂ h₂=>wpAny_bind (wpAny_mono h₂ (λok s₃ h₃=>?_) λ_ _ h'=>h')) λ_ _ h'=>h');cases ok with
  | false=>exact wpAny_pure ⟨rfl,h₃⟩
  | true=>
   exact wpAny_bind (wpAny_bind (wpAny_mono h₃ (λx s₄ h₄=>wpAny_bind (wpAny_mono h₄ (λ_ s₅ h₅=>wpAny_pure (wpAny_pure ⟨rfl,h₅⟩)) λ_ _ h'=>h')) λ_ _ h'=>h'))
end
def PIfs (X:Cx) (ifs:List Expr) (t:TT):Prop:=
 ∀(pins:List (Addr×Obj)) (s:Shared) (σ:St) (H:Hp) (Q:Bool→Hp→Prop),Inv X pins σ H s→t σ H Q→
  wpAny (model X.prog X.w) X.A (forIn ifs true λc r=>if r=true then do let ok ←isTrue c X.env (eval c X.env);pure (ForInStep.yield ok) else pure (ForInStep.yield r)) (TP X pins σ Q) X.xe s
def tNoIf:TT:=λ_ H Q=>Q true H
theorem lb {X:Cx}:PIfs X [] tNoIf:=λpins s σ H Q I h=>wpAny_tests_nil ⟨H,I,h⟩
theorem pif1 {X:Cx} {c:Expr} {t:TT} (h:PT X c t):PIfs X [c] t:=λpins s σ H Q I q=>wpAny_tests_one (h pins s σ H Q I q)
def LC (n:Nat) (fr:St) (g:TG) (tc:TT) (te:TE) (J:It) (D:Addr) (H1:Hp) (Q:Hp→Prop):Prop:=
 ∃W:Nat→Nat→Hp→Prop,(∃m,W 0 m (upd H1 D (.lst [])))∧∀i m H,W i m H→
  (J.stop i H∧Q H)∨(J.go i H∧∀(τ:St) x H',τ.length=n→J.yld i H x H'→g x (τ++fr) H' λσ2 H2=>(∃τ':St,τ'.length=n∧σ2=τ'++fr)∧tc σ2 H2 λb H3=>
   if b=true then te σ2 H3 λy H4=>∃ys,H4 D=some (.lst ys)∧ys.length < sizeLine∧∃m',m' < m∧W (i+1) m' (upd H4 D (.lst (ys++[y]))) else ∃m',m' < m∧W (i+1) m' H3)
def tLC (n:Nat) (ix:List Nat) (wi:TI) (g:TG) (tc:TT) (te:TE):TE:=λσ H Q=>wi σ H λJ H1=>∀D,H1 D=none→LC n (r8 ix σ) g tc te J D H1 λH'=>Q (.ref D) H'
section
variable {X:Cx} {scope:Scope} {own fr:List Str} {ix:List Nat} {cl:List (Str×Addr)} {elt iter tg:Expr} {ifs:List Expr} {pos:Pos} {wi:TI} {g:TG} {tc:TT} {te:TE}
theorem oy {E:Value→Shared→Prop} {RR:Value→Addr→Result→Shared→Prop} (C:i5 X scope own fr ix cl) (hc:X.calm=true)
  (hg:∀fp s H,PG (cxC X scope cl (own++fr) fp s H) tg g) (ht:∀fp s H,PIfs (cxC X scope cl (own++fr) fp s H) ifs tc) (he:∀fp s H,PE (cxC X scope cl (own++fr) fp s H) elt te)
  {pins:List (Addr×Obj)} {σ:St} {H2:Hp} {s2:Shared} {it:Addr} {fp:List Addr} {tn:Nat→Heap→Prop} {J:It} {Q:Hp→Prop} (I2:Inv X pins σ H2 s2) (T:Turn X.prog X.w X.K tg J fp it tn) (st2:tn 0 s2.heap) (f2:∀b∈fp,m9 X pins H2 b)
  (q:LC own.length (r8 ix σ) g tc te J s2.heap.objs.size H2 Q)
  (hRR:∀(s3 s':Shared) (H3 H':Hp) (τ:St),Inv X pins σ H3 s3→Inv X pins σ H' s'→H' s3.heap.objs.size=none→(∃m,s'.heap.Ns s3.heap.objs.size m)→Q H'→RR (.ref s2.heap.objs.size) s3.heap.objs.size (.ok .next) s'):
  wpAny (model X.prog X.w) X.A (newList []) (λacc s₃=>wpAny (model X.prog X.w) X.A (newFunctionEnv scope X.env.globals cl [] X.env.qual none .none (some X.env)) (λcenv s₄=>
   codeAny (model X.prog X.w) X.A (.compStart (.ListComp elt [⟨tg,iter,ifs,0⟩] scope pos) 0 (.ref it) acc { cenv with scope:=relabel scope X.env }) (RR acc cenv.locals) s₄) E s₃) E s2:=by
 refine wpAny_newObj_type ?_;have I3:Inv X pins σ (upd H2 s2.heap.objs.size (.lst [])) { s2 with heap:=s2.heap.push { cls:=.type "list",dict:=none,data:=.seq ([]:List Value).toArray } }:=I2.lnew (t':=s2.toks) (its:=[]) .nil (ab7 _);have lt2:∀b∈fp,b < s2.heap.objs.size:=λb hb=>by
  obtain ⟨o,e,_⟩:=T.obj 0 _ st2 b hb;exact Heap.lt_size e
 have fneD:∀b∈fp,b≠s2.heap.objs.size:=λb hb=>aas (lt2 b hb);generalize hs3:({ s2 with heap:=s2.heap.push { cls:=.type "list",dict:=none,data:=.seq ([]:List Value).toArray } }:Shared)=s3 at I3 ⊢;have hsz:s3.heap.objs.size=s2.heap.objs.size+1:=by rw[←hs3];exact Heap.size_push ..
 have kp23:∀b o,s2.heap.get? b=some o→s3.heap.get? b=some o:=λb o e=>by rw[←hs3];exact Heap.get?_push_of_some _ e
 have f3:∀b∈fp,m9 X pins (upd H2 s2.heap.objs.size (.lst [])) b:=λb hb=>by
  obtain ⟨f0,fr⟩:=f2 b hb;exact ⟨by rw[ai (fneD b hb)];exact f0,fr⟩
 have lt3:∀b∈fp,b < s3.heap.objs.size:=λb hb=>by rw[hsz];exact ae6 (lt2 b hb)
 refine wpAny_newFunctionEnv C.K4 (by intro y hy;simp at hy) (λh₁ hns₁ hsb₁=>?_) C.kind;have k34:∀b o,s3.heap.get? b=some o→h₁.get? b=some o:=λb o e=>
  (hsb₁.2 b (aas (Heap.lt_size e))).trans (Heap.get?_push_of_some _ e)
 have I4:=Ig C I3 f3 lt3 (t:=s3.toks+([]:List (Str×Value)).length) hns₁ k34;have st4:tn 0 h₁:=T.keep 0 _ _ st2 λb _ o e=>k34 b o (kp23 b o e);obtain ⟨W,⟨m0,w0⟩,turn⟩:=q;have loop:∀s4:Shared,s4={ s3 with heap:=h₁,toks:=s3.toks+([]:List (Str×Value)).length }→
   codeAny (model X.prog X.w) X.A (.compLoop (.ListComp elt [⟨tg,iter,ifs,0⟩] scope pos) 0 (.ref it) (.ref s2.heap.objs.size) (compEnvC scope cl s3.heap.objs.size X.env)) (RR (.ref s2.heap.objs.size) s3.heap.objs.size) s4:=by
  rintro s4 rfl;have stat:∀{H':Hp},(∀b∈fp,H' b=none)→∀b∈fp,m9 (cxC X scope cl (own++fr) fp s3 (upd H2 s2.heap.objs.size (.lst []))) [] H' b:=λ{H'} hn b hb=>
   ⟨hn b hb,aas (lt3 b hb),I4.ok.exfs b hb,.inl hb,(I4.ok.exf b hb).2,λp hp=>by cases hp⟩
  refine vj (λn s'=>∃i τ H',τ.length=own.length∧Inv (cxC X scope cl (own++fr) fp s3 (upd H2 s2.heap.objs.size (.lst []))) [] (τ++r8 ix σ) H' s'∧tn i s'.heap∧(∀b∈fp,H' b=none)∧W i n H') ?_ m0
   ⟨0,abd own.length none,_,abi,I4,st4,λb hb=>(f3 b hb).1,w0⟩
  rintro n s5 ⟨i,τ,H5,hτ,I5,st5,fr5,w5⟩;rcases turn i n H5 w5 with ⟨stop,qn⟩ | ⟨go,step⟩
  ·refine wpAny_mono (T.done (cxC X scope cl (own++fr) fp s3 (upd H2 s2.heap.objs.size (.lst []))) rfl rfl rfl hc i [] s5 _ H5 (λ_ _=>False) I5 (stat fr5) st5 stop) (λr s6 ⟨hr,I6⟩=>?_) λ_ _ z=>z.elim;subst hr;obtain ⟨mm,hmm,_⟩:=I6.loc;exact hRR s3 s6 _ H5 τ I3 (Ie I3 f3 I6) I6.free ⟨mm,hmm⟩ qn
  ·refine wpAny_mono (T.item (cxC X scope cl (own++fr) fp s3 (upd H2 s2.heap.objs.size (.lst []))) rfl rfl rfl hc i [] s5 _ H5 (λ_ _=>False) I5 (stat fr5) st5 go) (λr s6 ⟨u,hr,h6⟩=>?_) λ_ _ z=>z.elim;subst hr;refine wpAny_mono h6 (λ_ s7 ⟨x,H7,I7,r7,y7,st7,fr7⟩=>?_) λ_ _ z=>z.elim;have I7':=I7.pinned (stat fr7) (T.obj _ _ st7);refine wpAny_mono (hg fp s3 _ _ s7 _ H7 x u _ I7' r7 (step τ x H7 hτ y7)) (λ_ s8 ⟨σ8,H8,I8,⟨τ',hτ',e8⟩,q8⟩=>?_) λ_ _ z=>z.elim;have fin:∀{H9:Hp} {s9:Shared},Inv (cxC X scope cl (own++fr) fp s3 (upd H2 s2.heap.objs.size (.lst []))) ([]++oz fp s7.heap) σ8 H9 s9→(∃m',m' < n∧W (i+1) m' H9)→
     ∃m,m < n∧∃i τ H',τ.length=own.length∧Inv (cxC X scope cl (own++fr) fp s3 (upd H2 s2.heap.objs.size (.lst []))) [] (τ++r8 ix σ) H' s9∧tn i s9.heap∧(∀b∈fp,H' b=none)∧W i m H':=λ{H9 s9} I9 hw=>by
    obtain ⟨m',hm,w9⟩:=hw;refine ⟨m',hm,i+1,τ',H9,hτ',e8 ▸ I9.lh,T.keep _ _ _ st7 λb hb o e=>(I9.pin (b,o) (aai _ (aai _ (iw hb e)))).1,λb hb=>?_,w9⟩;obtain ⟨o,e,d⟩:=T.obj _ _ st7 b hb;exact (I9.pin (b,o) (aai _ (aai _ (iw hb e)))).2.1
   refine wpAny_mono (ht fp s3 _ _ s8 σ8 H8 _ I8 q8) (λok s9 ⟨H9,I9,q9⟩=>?_) λ_ _ z=>z.elim;cases ok with
   | false=>exact fin I9 q9
   | true=>
    refine wpAny_mono (he fp s3 _ _ s9 σ8 H9 _ I9 q9) (λy s10 ⟨v10,H10,I10,r10,ys,hD,hz,q10⟩=>?_) λ_ _ z=>z.elim;refine wpAny_mono (t4 (X:=cxC X scope cl (own++fr) fp s3 (upd H2 s2.heap.objs.size (.lst []))) _ s10 σ8 H10 (.ref s2.heap.objs.size) [v10] _ [y] (λ_ H'=>∃m',m' < n∧W (i+1) m' H') I10 rfl (.cons r10 .nil) ⟨_,ys,v10,rfl,rfl,hD,hz,q10⟩) (λ_ s11 ⟨_,H11,I11,_,q11⟩=>?_) λ_ _ z=>z.elim;exact fin I11 q11
 exact codeAny_compStart_list (loop _ rfl) (T.self _ 0 _ _ _ st4 (loop _ rfl))
theorem pe_lc (C:i5 X scope own fr ix cl) (hc:X.calm=true) (hi:PI X tg iter wi) (hg:∀fp s H,PG (cxC X scope cl (own++fr) fp s H) tg g)
  (ht:∀fp s H,PIfs (cxC X scope cl (own++fr) fp s H) ifs tc) (he:∀fp s H,PE (cxC X scope cl (own++fr) fp s H) elt te)
  (hs:∀x,foldedSetIterable iter X.env x=pure x:=by intro _;rfl):PE X (.ListComp elt [⟨tg,iter,ifs,0⟩] scope pos) (tLC own.length ix wi g tc te):=by
 intro pins s σ H Q I h;rw[eval_ListComp];refine wpAny_comprehension_free (use:=none) rfl hs C.clos C.kind C.Ht (thn (hi pins s σ H _ I h) λv s1 h1=>thn h1 λitv s2 h2=>?_);obtain ⟨it,fp,tn,J,H2,e,I2,T,st2,f2,q⟩:=h2;subst e;refine oy (RR:=λacc D=>compPost (model X.prog X.w) X.A X.xe none (EP X pins σ Q) acc D) C hc hg ht he I2 T st2 f2 (q _ (I2.hok.fresh (aa3 _))) λs3 s' H3 H' τ I3 I' hn hm q'=>?_;obtain ⟨m,hm⟩:=hm;exact ⟨m,hm,λh' sb=>⟨.ref s2.heap.objs.size,H',yp I3 I' hn sb,rfl,q'⟩⟩
def Jt (i n:Nat) (ix:List Nat) (wi:TI) (g:TG) (tc:TT) (te:TE):TS:=λD σ H=>wi σ H λJ H1=>∀l,H1 l=none→LC n (r8 ix σ) g tc te J l H1 λH'=>D.nx (σ.set i (some (.ref l))) H'
theorem Hh {i:Nat} {x:Str} {px spos:Pos} (hN:X.N.Nodup) (hx:X.N[i]?=some x) (hl:Loc X.env.scope x) (C:i5 X scope own fr ix cl) (hc:X.calm=true) (hi:PI X tg iter wi)
  (hg:∀fp s H,PG (cxC X scope cl (own++fr) fp s H) tg g) (ht:∀fp s H,PIfs (cxC X scope cl (own++fr) fp s H) ifs tc) (he:∀fp s H,PE (cxC X scope cl (own++fr) fp s H) elt te)
  (hsw:swapsWith (.ListComp elt [⟨tg,iter,ifs,0⟩] scope pos) (some (.Name x px)) spos.line X.env=pure true:=by rfl)
  (hs:∀x,foldedSetIterable iter X.env x=pure x:=by intro _;rfl) (hf:X.fn x=true∨X.env.scope.names.lookup x=some .local:=by first | exact .inl rfl | exact .inr rfl | assumption):
  PS X (.Assign [.Name x px] (.ListComp elt [⟨tg,iter,ifs,0⟩] scope pos) spos) (Jt i own.length ix wi g tc te):=by
 intro pins s σ H D I h;rw[exec_Assign_Name_used _ _ _ _ hsw];refine wpAny_bind (wpAny_standAt (wpAny_bind ?_));show wpAny _ X.A (do let _ ←comprehension (.ListComp elt [⟨tg,iter,ifs,0⟩] scope pos) scope X.env _ (newList []) false (eval iter X.env) (some (assign (.Name x px) X.env))) _ _ s
 refine wpAny_bind (wpAny_mono (wpAny_comprehension_free (use:=some (assign (.Name x px) X.env)) (Q:=λ_ s'=>SP X pins D .next s') rfl hs C.clos C.kind C.Ht
  (thn (hi pins s σ H _ I h) λv s1 h1=>thn h1 λitv s2 h2=>?_)) (λ_ s' hq=>wpAny_pure (wpAny_pure hq)) λ_ _ e=>e)
 obtain ⟨it,fp,tn,J,H2,e,I2,T,st2,f2,q⟩:=h2;subst e;refine oy (RR:=λacc C=>compPost (model X.prog X.w) X.A X.xe (some (assign (.Name x px) X.env)) (λ_ s'=>SP X pins D .next s') acc C) C hc hg ht he I2 T st2 f2 (q _ (I2.hok.fresh (aa3 _))) λs3 s' H3 H' τ I3 I' hn hm q'=>?_;obtain ⟨m,hm⟩:=hm;show wpAny _ X.A (assign (.Name x px) X.env (.ref s2.heap.objs.size)) _ _ _
 refine wpAny_assign_Name (sx I' hN hx hl (v:=.ref s2.heap.objs.size) rfl (λs'' I'' hsb=>?_) hf);obtain ⟨a,sba,ha⟩:=hsb;have hne:s3.heap.objs.size≠a:=by
  rcases ha with rfl | ha
  ·exact aby I3.lt
  ·obtain ⟨v,qv⟩:=I3.cell x a ha;exact aby qv.lt
 exact ⟨m,hm.sameBut sba hne,λh' sb=>⟨_,H',yp I3 I'' hn sb,q'⟩⟩
end
noncomputable def Its (z:Str):It:=⟨λi _=>i < z.cps.size,λi H x H'=>H'=H∧∃c,z.cps[i]?=some c∧x=.str ⟨#[c]⟩,λi _=>i=z.cps.size⟩
theorem yi {P:Program} {w:World} {K:PySem.W.Frag} {tg:Expr} (it:Addr) (z:Str) (t:Tok) (ty:String)
  (hn:["enumerate","zip","dict_itemiterator","dict_reverseitemiterator","odict_iterator","itertools.zip_longest","itertools.pairwise"].contains ty=false)
  (W:∀A':Around,A'.handled=none→Walks P w A' it [it] [it] z.cps.size (SignAt z) (λi h=>h.IsStrIter it ty z t i))
  (self:∀(A:Around) (i:Nat) (s:Shared) (Q:Value→Shared→Prop) (E:Value→Shared→Prop),s.heap.IsStrIter it ty z t i→Q (.ref it) s→wpAny (model P w) A (pyIter (.ref it)) Q E s):
  Turn P w K tg (Its z) [it] it (λi h=>h.IsStrIter it ty z t i) where
 mem:=by simp
 obj:=λi h st b hb=>by
  have e:b=it:=by simpa using hb
  subst e;obtain ⟨o,e,c,d⟩:=st;exact ⟨o,e,λv z=>by rw[d] at z;cases z⟩
 keep:=λi h h' st k=>by
  obtain ⟨o,ho,r⟩:=st;exact ⟨o,k it (by simp) o ho,r⟩
 item:=by
  intro X hP hw hK hc i pins s σ H E I hf st hg;subst hP hw hK;obtain ⟨f0,f1,f2,f3,f4,f5⟩:=hf it (by simp);refine (W X.A (I.ok.hd hc)).item i s _ _ hg st λv h' tk hv st' kk=>?_;obtain ⟨c,u,hcc,rfl⟩:=hv;have I1:Inv X pins σ H { s with heap:=h',toks:=tk }:=I.turned (λb o hb e=>kk b o (by simpa using hb) e) f0 f1 f3 f4 f5;obtain ⟨o,e,c',d⟩:=id st';exact ⟨_,rfl,Dp (s:={ s with heap:=h',toks:=tk }) (n:=ty) e c' d hn ⟨.str ⟨#[c]⟩,H,I1,⟨u,rfl⟩,⟨rfl,c,hcc,rfl⟩,st',λb hb=>(hf b hb).1⟩⟩
 done:=by
  intro X hP hw hK hc i pins s σ H E I hf st hg;subst hP hw hK;obtain ⟨f0,f1,f2,f3,f4,f5⟩:=hf it (by simp);have hg:i=z.cps.size:=hg;subst hg;exact (W X.A (I.ok.hd hc)).done s _ _ st λh' tk kk=>⟨rfl,I.turned (λb o hb e=>kk b o (by simpa using hb) e) f0 f1 f3 f4 f5⟩
 self:=λA i s Q E st h=>self A i s Q E st h
def iStr (tl:TE):TI:=λσ H R=>tl σ H λx H1=>∃z,x=.str z∧R (Its z) H1
section
variable {X:Cx} {tg:Expr}
theorem pi_str {l:Expr} {tl:TE} (hl:PE X l tl):PI X tg l (iStr tl):=by
 intro pins s σ H R I h;refine thn (hl pins s σ H _ I h) λv s1 ⟨x,H1,I1,r1,q1⟩=>?_;obtain ⟨z,e,q⟩:=q1;subst e;obtain ⟨t,rfl⟩:=r1;cases ha:z.cps.all (· < 128)
 ·refine wpAny_pyIter_wide ha ?_;refine ⟨s1.heap.objs.size,[s1.heap.objs.size],_,_,H1,rfl,I1.kept (t':=s1.toks) λb o e=>Heap.get?_push_of_some _ e,
   yi s1.heap.objs.size z t "str_iterator" (by decide) (λA' hA=>Walks.strWide hA _ z t) (λ_ _ _ _ _ st h=>wpAny_pyIter_striter_wide st h),⟨_,Heap.get?_push_size _ rfl,rfl,rfl⟩,λb hb=>?_,q⟩
  have e:b=s1.heap.objs.size:=by simpa using hb
  subst e;exact I1.si (aa3 _) (I1.hok.fresh (aa3 _))
 ·refine wpAny_pyIter_ascii ha ?_;refine ⟨s1.heap.objs.size,[s1.heap.objs.size],_,_,H1,rfl,I1.kept (t':=s1.toks) λb o e=>Heap.get?_push_of_some _ e,
   yi s1.heap.objs.size z t "str_ascii_iterator" (by decide) (λA' hA=>Walks.strAscii hA _ z t) (λ_ _ _ _ _ st h=>wpAny_pyIter_striter_ascii st h),⟨_,Heap.get?_push_size _ rfl,rfl,rfl⟩,λb hb=>?_,q⟩
  have e:b=s1.heap.objs.size:=by simpa using hb
  subst e;exact I1.si (aa3 _) (I1.hok.fresh (aa3 _))
end
theorem range_all (bs:List Bool) (tr:Nat→Bool) (h:∀(i:Nat) b,bs[i]?=some b→tr i=b):(abf bs.length).all tr=bs.all id:=by
 apply Bool.eq_iff_iff.mpr
 constructor
 ·intro h1;refine List.all_eq_true.mpr λb hb=>?_;obtain ⟨i,hi⟩:=adt hb;have hl:i < bs.length:=(List.getElem?_eq_some_iff.mp hi).1;have:=List.all_eq_true.mp h1 i (List.mem_range.mpr hl);rw[h i b hi] at this;exact this
 ·intro h1;refine List.all_eq_true.mpr λi hi=>?_;have hl:i < bs.length:=List.mem_range.mp hi;have hg:bs[i]?=some bs[i]:=aa5 hl;rw[h i _ hg];exact List.all_eq_true.mp h1 _ (aaw hl)
section
variable {X:Cx}
theorem gj (hc:X.calm=true):cm X (.builtin "all") (λxs H Q=>∃p bs,xs=[.ref p]∧SqL X.K H p (adu V.bl bs)∧Q (.bl (bs.all id)) H):=by
 intro pins s σ H xs us Q I r h;obtain ⟨p,bs,rfl,hq,q⟩:=h;obtain ⟨u,rfl,rx⟩:=vals1 r;cases rx
 obtain ⟨its,rv,pl,hz⟩:=I.list hq;have hlen:bs.length=its.length:=by rw[←rv.length,aa2]
 refine call_all_walk (wpAny_pyIter_list pl.isList ?_);have hne:p≠s.heap.objs.size:=by
  obtain ⟨o,n,e,_⟩:=pl;exact aas (Heap.lt_size e)
 have I1:Inv X pins σ H { s with heap:=s.heap.push { cls:=.type "list_iterator",data:=.fields #[.ref p,.int 0 0] } }:=I.kept (t':=s.toks) λb o e=>Heap.get?_push_of_some _ e;have fp:=I.si (H':=H) (aa3 s.heap.objs.size) (I.hok.fresh (aa3 _));obtain ⟨f0,f1,f2,f3,f4,f5⟩:=fp;refine ⟨s.heap.objs.size,_,_,its.toArray.size,_,_,λi=>(bs[i]?).getD false,rfl,Walks.list (A:=X.A.in1) (by show X.A.handled=none;exact I.ok.hd hc) s.heap.objs.size p hne its.toArray,⟨⟨_,Heap.get?_push_size _ rfl,rfl,rfl⟩,?_⟩,?_,λh' tk kk=>?_⟩
 ·obtain ⟨o,ho,r⟩:=pl.isList;exact ⟨o,Heap.get?_push_of_some _ ho,r⟩
 ·intro i v s' Q' E' hv hQ;have hv':its[i]?=some v:=by simpa using hv
  have hi:i < bs.length:=by rw[hlen];exact (List.getElem?_eq_some_iff.mp hv').1
  have hb:(bs.map V.bl)[i]?=some (V.bl bs[i]):=by rw[aag,aa5 hi];rfl
  obtain ⟨u',hu',ru'⟩:=rv.get hb;rw[hv'] at hu';cases hu'
  cases ru'
  dsimp only at hQ;rw[aa5 hi] at hQ;exact wpAny_truthy_bool hQ
 ·rw[aae,←hlen,range_all bs _ (λi b e=>by rw[e];rfl)];exact ⟨.bl _,H,I1.turned (it:=s.heap.objs.size) (λb o hb e=>kk b o (by simpa using hb) e) f0 f1 f3 f4 f5,rfl,q⟩
end
noncomputable def cj (z:Str) (lo hi:Option Int):Str:=⟨((z.cps.toList.drop (HT.sIx z.length 0 lo)).take (HT.sIx z.length z.length hi - HT.sIx z.length 0 lo)).toArray⟩
theorem Ew (z:Str) (lo hi:Option Int):(cj z lo hi).length≤z.length:=by
 show ((z.cps.toList.drop _).take _).toArray.size≤z.cps.size
 rw[aae,aaa,aaf,abn];omega
theorem Mi (n:Nat) (lo:Option Int):(match lo with | none=>(0:Int) | some i=>max 0 (min (if i < 0 then i+(n:Int) else i) n))=((HT.sIx n 0 lo:Nat):Int):=by
 cases lo with
 | none=>rfl
 | some i=>
  show max 0 (min (if i < 0 then i+(n:Int) else i) n)=((HT.sIx n 0 (some i):Nat):Int)
  unfold HT.sIx;by_cases h:i < 0
  ·simp only[h,if_true] <;> omega
  ·simp only[h,if_false] <;> omega
theorem Lx (n:Nat) (hi:Option Int):(match hi with | none=>(n:Int) | some i=>max 0 (min (if i < 0 then i+(n:Int) else i) n))=((HT.sIx n n hi:Nat):Int):=by
 cases hi with
 | none=>rfl
 | some i=>
  show max 0 (min (if i < 0 then i+(n:Int) else i) n)=((HT.sIx n n (some i):Nat):Int)
  unfold HT.sIx;by_cases h:i < 0
  ·simp only[h,if_true] <;> omega
  ·simp only[h,if_false] <;> omega
theorem mj (lo hi:Option Int) (n:Nat):Builtin.Str.strSliceIndices lo hi 1 n=(abf (HT.sIx n n hi - HT.sIx n 0 lo)).map (HT.sIx n 0 lo+·):=by
 have e:Builtin.Str.strSliceIndices lo hi 1 n=sliceRange (match lo with | none=>(0:Int) | some i=>max 0 (min (if i < 0 then i+(n:Int) else i) n)) (match hi with | none=>(n:Int) | some i=>max 0 (min (if i < 0 then i+(n:Int) else i) n)) 1:=by
  cases lo <;> cases hi <;> rfl
 rw[e,Mi n lo,Lx n hi,sliceRange_one]
theorem Gv (z:Str) (lo hi:Option Int):(⟨((Builtin.Str.strSliceIndices lo hi 1 z.length).filterMap (z.cps[·]?)).toArray⟩:Str)=cj z lo hi:=by
 rw[mj,pick_run];rfl
theorem Bq (z:Str) (lo hi:Option Int) (h:(Builtin.Str.strSliceIndices lo hi 1 z.length).length=z.length):cj z lo hi=z:=by
 rw[mj,aa2,acm] at h;have h1:HT.sIx z.length 0 lo≤z.length:=HT.Bm _ _ (ab7 _) lo;have h2:HT.sIx z.length z.length hi≤z.length:=HT.Bm _ _ (aa3 _) hi;unfold cj;by_cases h0:z.length=0
 ·have e0:z.cps.toList=[]:=by
   apply abw
   rw[abn];exact h0
  rw[e0];have e1:z.cps=#[]:=by
   apply acx
   exact h0
  cases z with
  | mk c=>cases e1;simp
 ·have a:HT.sIx z.length 0 lo=0:=by omega
  have b:HT.sIx z.length z.length hi=z.length:=by omega
  rw[a,b,List.drop_zero,Nat.sub_zero];have e:z.cps.toList.take z.length=z.cps.toList:=by
   apply ac5
   rw[abn];exact aa3 _
  rw[e]
section
variable {X:Cx}
def rSlS:V→Option Int→Option Int→Hp→VK→Prop:=λx lo hi H Q=>∃z,x=.str z∧z.length≤sizeLine∧Q (.str (cj z lo hi)) H
theorem part_of {v:Value} {o:Option Int} (p:IsPart v o):∃l:Option (Int×Tok),partValue l=v∧l.map (·.1)=o:=by
 cases p with
 | none=>exact ⟨none,rfl,rfl⟩
 | int i t=>exact ⟨some (i,t),rfl,rfl⟩
theorem Cj:SlR X rSlS:=by
 intro pins s σ H x v vl vu lo hi sl Q I rx hs pl pu h;obtain ⟨z,rfl,hz,q⟩:=h;obtain ⟨t,rfl⟩:=rx;obtain ⟨l,el,e1⟩:=part_of pl;obtain ⟨u,eu,e2⟩:=part_of pu;subst el eu e1 e2;refine ⟨"str",_,F.slot_str_getitem.lookup,typeIs_str s z t,wpAny_getItem_str_slice (l:=l) (u:=u) (st:=none) hs rfl ?_⟩;unfold sliceMade slicePicked;by_cases c:(((none:Option (Int×Tok)).map (·.1)).getD 1==1&&(Builtin.Str.strSliceIndices (l.map (·.1)) (u.map (·.1)) (((none:Option (Int×Tok)).map (·.1)).getD 1) z.length).length==z.length)=true
 ·rw[if_pos c];rw[abb] at c;have c2:(Builtin.Str.strSliceIndices (l.map (·.1)) (u.map (·.1)) 1 z.length).length=z.length:=eq_of_beq c.2;have e:=Bq z _ _ c2;rw[e] at q;exact ⟨.str z,H,I,⟨t,rfl⟩,q⟩
 ·rw[if_neg c];have e:=Gv z (l.map (·.1)) (u.map (·.1));show ((⟨((Builtin.Str.strSliceIndices (l.map (·.1)) (u.map (·.1)) 1 z.length).filterMap (z.cps[·]?)).toArray⟩:Str).length≤sizeLine∧EP X pins σ Q (.str ⟨((Builtin.Str.strSliceIndices (l.map (·.1)) (u.map (·.1)) 1 z.length).filterMap (z.cps[·]?)).toArray⟩ s.toks) { s with toks:=s.toks+1 })
  rw[e];exact ⟨aak (Ew z _ _) hz,⟨.str _,H,I.tok _,⟨_,rfl⟩,q⟩⟩
noncomputable def i7 (z:Str) (n:Nat):Str:=⟨(abd n z.cps.toList).flatten.toArray⟩
theorem sr (x:List Nat):∀(n:Nat) (acc:Array Nat),(abd n x.toArray).foldl (·++·) acc=acc++(abd n x).flatten.toArray
 | 0,acc=>by simp
 | n+1,acc=>by
  rw[adx,List.foldl_cons,sr x n,adx,List.flatten_cons];apply Array.toList_inj.mp
  simp
theorem M3 (z:Str) (n:Int) (h:0≤n):Txt.mul z n=i7 z n.toNat:=by
 unfold Txt.mul i7;by_cases h1:n < 1
 ·rw[if_pos h1];have e:n.toNat=0:=by omega
  rw[e];rfl
 ·rw[if_neg h1];by_cases h2:(n==1||z.length==0)=true
  ·rw[if_pos h2];rw[adl] at h2;rcases h2 with h2 | h2
   ·have e:n=1:=eq_of_beq h2;subst e;show z=⟨(abd 1 z.cps.toList).flatten.toArray⟩
    simp
   ·have e:z.length=0:=eq_of_beq h2;have e0:z.cps=#[]:=acx e;cases z with
    | mk c=>cases e0;simp
  ·rw[if_neg h2];have e:=sr z.cps.toList n.toNat #[];have e3:z.cps.toList.toArray=z.cps:=by simp
   rw[e3] at e;rw[e];simp
theorem ik:OpR X (binaryOp .Mult) (λx y H Q=>∃z n,x=.str z∧y=.int n∧0≤n∧n≤1000∧z.length≤1000∧Q (.str (i7 z n.toNat)) H):=by
 intro pins s σ H x y v u Q I rx ry h;obtain ⟨z,n,rfl,rfl,h0,h1,h2,q⟩:=h;obtain ⟨t,rfl⟩:=rx;obtain ⟨t',rfl⟩:=ry;have hb:z.length*n.toNat≤1000*1000:=Nat.mul_le_mul h2 (by omega);refine SB.mul ⟨by rw[Bool.or_eq_false_iff];exact ⟨decide_eq_false (by omega),decide_eq_false (by omega)⟩,λhn1 _=>?_,λ_ _=>?_⟩ λt' k=>⟨.str _,H,I.tok _,⟨_,rfl⟩,by rw[M3 z n h0];exact q⟩
 ·have hp:0 < n:=by omega
  have h3:(z.length:Int)*n≤1000*n:=Int.mul_le_mul_of_nonneg_right (by omega) h0;have h4:(z.length:Int)≤(2 ^ 63 - 1) / n:=Int.le_ediv_of_mul_le hp (by omega);omega
 ·unfold Builtin.Str.tooLong;exact decide_eq_false (by have:=sizeLine_eq;omega)
theorem rh:∀{ys:List Str} {us:List Value},Vals (ys.map V.str) us→StrsAre us ys
 | [],_,.nil=>.nil
 | y::ys,u::us,.cons r t=>by
  obtain ⟨t',rfl⟩:=r;exact .cons _ _ (rh t)
theorem Kx:MtR X "str.join" (λx xs H Q=>∃sep p ys,x=.str sep∧xs=[.ref p]∧SqL X.K H p (adu V.str ys)∧(ys.map (·.length)).sum+ys.length*sep.length≤1000000∧Q (.str (Txt.join sep ys)) H):=by
 intro pins s σ H x xs v us Q I rx rv h;obtain ⟨sep,p,ys,rfl,rfl,hq,hb,q⟩:=h;obtain ⟨t,rfl⟩:=rx;obtain ⟨u,rfl,ru⟩:=rv.one;cases ru
 obtain ⟨its,r,pl,hz⟩:=I.list hq;exact join_list pl.isList (by simpa using rh r) (by omega) λt' k=>⟨.str _,H,I.tok _,⟨_,rfl⟩,q⟩
theorem sq:MtR X "str.startswith" (λx xs H Q=>∃z y,x=.str z∧xs=[.str y]∧Q (.bl (Txt.startswith z y)) H):=by
 intro pins s σ H x xs v us Q I rx rv h;obtain ⟨z,y,rfl,rfl,q⟩:=h;obtain ⟨t,rfl⟩:=rx;obtain ⟨u,rfl,ru⟩:=rv.one;obtain ⟨t',rfl⟩:=ru;exact SC.startswith ⟨.bl _,H,I,rfl,q⟩
theorem nq:cm X (.builtin "isinstance") (λxs H Q=>∃x n t b,xs=[x,.ty n]∧mz X.K H x t∧PySem.W.kitOne X.K t (.type n)=some b∧Q (.bl b) H):=by
 intro pins s σ H xs us Q I r h;obtain ⟨x,n,t,b,rfl,ty,e,q⟩:=h;obtain ⟨u,u2,rfl,r1,r2⟩:=vals2 r;cases (show u2=Value.type n from r2)
 exact Gu I r1 ty e λtk=>⟨.bl b,H,I.tok tk,rfl,q⟩
end
theorem ae {H:Hp} {p:Addr} (h:H p=none) (o:HO):ao H (upd H p o):=λb u q=>by rw[ai (aq q h)];exact q
theorem ao.upd {H H':Hp} {p:Addr} (e:ao H H') (h:H p=none) (o:HO):ao H (L2.upd H' p o):=λb u q=>by rw[ai (aq q h)];exact e b u q
theorem ao.tup {K:PySem.W.Frag} {H H':Hp} {a:Addr} {xs:List V} (e:ao H H') (h:SqT K H a xs):SqT K H' a xs:=by
 rcases h with (h | ⟨o,h⟩) | h
 ·exact .inl (.inl (e _ _ h))
 ·exact .inl (.inr ⟨o,e _ _ h⟩)
 ·exact .inr h
def Has (P:Program) (w:World) (K:PySem.W.Frag) (mg:Str→Option Value) (base:Heap) (k:Nat) (x:Str) (ps:List Str) (sp:Sp):Prop:=
 ∃(f:Addr) (fd:FuncData),h9 P w K mg base CX0 k f fd ps sp∧Binds K fd ps []∧PySem.W.keepIn K (.ref f)=true∧mg x=some (.ref f)
theorem Has.up {P:Program} {w:World} {K:PySem.W.Frag} {mg:Str→Option Value} {base:Heap} {j k:Nat} {x:Str} {ps:List Str} {sp:Sp} (h:Has P w K mg base j x ps sp) (l:j≤k):Has P w K mg base k x ps sp:=by
 obtain ⟨f,fd,F,r⟩:=h;exact ⟨f,fd,F.mono l,r⟩
def Def (K:PySem.W.Frag) (mg:Str→Option Value) (x:Str) (st:Stmt) (ps:List Str):Prop:=
 ∃(f:Addr) (fd:FuncData),Fun K x x st f fd∧Binds K fd ps []∧mg x=some (.ref f)
theorem Def.has {P:Program} {w:World} {K:PySem.W.Frag} {mg:Str→Option Value} {base:Heap} {k:Nat} {x:Str} {st:Stmt} {N ps:List Str} {sp:Sp} (D:Def K mg x st ps) (S:au N ps (af st)) (len:∀vs H Q E,sp vs H Q E→vs.length=ps.length)
  (hbody:∀(f:Addr) (cdv:Value) (A:Around) (outer:List Env) (s:Shared) (H:Hp) (vs:List V) (Q:VK) (E:XK),cv k (A.deeper (envOfC x (af st) s.heap.objs.size f cdv))→sp vs H Q E→
   ∃t,PSs (kq CX0 P w K mg base N x (af st) f cdv A outer s H E).nox (ar st) t∧t { nx:=λ_ H'=>Q .non H',rt:=Q } (start N vs) H):Has P w K mg base (k+1) x ps sp:=by
 obtain ⟨f,fd,F,b,m⟩:=D;exact ⟨f,fd,F.ok S len λcdv A outer s H vs Q E hr h=>hbody f cdv A outer s H vs Q E hr h,b,F.kp,m⟩
section
variable {X:Cx} {k:Nat} {ps:List Str} {sp:Sp} {x:Str} {p pos:Pos} {e:Expr} {es:List Expr} {t:TA}
theorem pe_has (h:Has X.prog X.w X.K X.mg X.base k x ps sp) (hr:cv k X.A) (ha:PA X (e::es) t) (hg:Gl X x:=by rfl) (hdb:(x==("__debug__":Str))=false:=by decide+kernel)
  (he:starEach (e::es) X.env=(false,eval e X.env)::starEach es X.env:=by rfl) (hpl:(backTo pos (starEach es X.env)).any (·.1)=false:=by rfl):
  PE X (.Call (.Name x p) (e::es) [] pos) (zo sp [] E0 t):=by
 obtain ⟨f,fd,F,b,kp,m⟩:=h;exact xt F hr hg m kp b .nil pass0 ha hdb he hpl
end
theorem xv {J:It} {fr:St} {tc:TT} {te:TE} {D:Addr} {H1:Hp} {Q:Hp→Prop} (n:Nat) (item:Nat→V) (P:Nat→List V→Prop) (hn:n < sizeLine) (hD:H1 D=none)
  (hgo:∀i H,i < n→ao H1 H→J.go i H) (hyld:∀i H x H',i < n→ao H1 H→J.yld i H x H'→H'=H∧x=item i) (hstop:∀H,ao H1 H→J.stop n H)
  (h0:P 0 [])
  (step:∀i ys H (G:Hp→Prop) (K':V→Hp→Prop),i < n→P i ys→ys.length≤i→ao H1 H→(∀H3,ao H H3→P (i+1) ys→G H3)→(∀y H4,ao H H4→P (i+1) (ys++[y])→K' y H4)→tc ([some (item i)]++fr) H λb H3=>if b=true then te ([some (item i)]++fr) H3 K' else G H3)
  (done:∀ys H,P n ys→ys.length≤n→ao H1 H→H D=some (.lst ys)→Q H):LC 1 fr (iy 0) tc te J D H1 Q:=by
 refine ⟨λi m H=>m=n - i∧i≤n∧∃ys,H D=some (.lst ys)∧P i ys∧ys.length≤i∧ao H1 H,⟨n,by simp,ab7 _,[],aa,h0,aa3 _,ae hD _⟩,?_⟩;rintro i m H ⟨rfl,hi,ys,hys,hP,hl,hS⟩;by_cases hlt:i < n
 ·refine .inr ⟨hgo i H hlt hS,λτ x H' hτ hy=>?_⟩;obtain ⟨e1,e2⟩:=hyld i H x H' hlt hS hy;subst e1 e2;obtain ⟨a,rfl⟩:∃a,τ=[a]:=List.length_eq_one_iff.mp hτ;refine ⟨⟨[some (item i)],rfl,rfl⟩,step i ys H' (λH3=>∃m',m' < n - i∧m'=n - (i+1)∧i+1≤n∧∃ys,H3 D=some (.lst ys)∧P (i+1) ys∧ys.length≤i+1∧ao H1 H3)
   (λy H4=>∃zs,H4 D=some (.lst zs)∧zs.length < sizeLine∧∃m',m' < n - i∧m'=n - (i+1)∧i+1≤n∧∃ys,upd H4 D (.lst (zs++[y])) D=some (.lst ys)∧P (i+1) ys∧ys.length≤i+1∧ao H1 (upd H4 D (.lst (zs++[y])))) hlt hP hl hS (λH3 q1 q2=>?_) (λy H4 q1 q2=>?_)⟩
  ·exact ⟨n - (i+1),by omega,rfl,hlt,ys,q1 _ _ hys,q2,abt hl,hS.trans q1⟩
  ·refine ⟨ys,q1 _ _ hys,by omega,n - (i+1),by omega,rfl,hlt,ys++[y],aa,q2,?_,(hS.trans q1).upd hD _⟩;rw[aa4,abj];omega
 ·have e:i=n:=by omega
  subst e;exact .inl ⟨hstop H hS,done ys H hP hl hS hys⟩
theorem gy {K:PySem.W.Frag} {a:Addr} {xs:List V} {fr:St} {tc:TT} {te:TE} {D:Addr} {H1:Hp} {Q:Hp→Prop} (P:Nat→List V→Prop) (hS:SqL K H1 a xs) (hn:xs.length < sizeLine) (hD:H1 D=none) (h0:P 0 [])
  (step:∀i x ys H (G:Hp→Prop) (K':V→Hp→Prop),xs[i]?=some x→P i ys→ys.length≤i→ao H1 H→(∀H3,ao H H3→P (i+1) ys→G H3)→(∀y H4,ao H H4→P (i+1) (ys++[y])→K' y H4)→tc ([some x]++fr) H λb H3=>if b=true then te ([some x]++fr) H3 K' else G H3)
  (done:∀ys H,P xs.length ys→ys.length≤xs.length→ao H1 H→H D=some (.lst ys)→Q H):LC 1 fr (iy 0) tc te (Itl K a) D H1 Q:=by
 have at':∀i,i < xs.length→xs[i]?=some (xs.getD i .non):=λi hi=>by
  rw[aam,aa5 hi];rfl
 exact xv xs.length (λi=>xs.getD i .non) P hn hD (λi H hi hs=>⟨xs,_,hs.seq hS,at' i hi⟩)
  (λi H x H' hi hs hy=>⟨hy.1,aac ((hy.2 xs (hs.seq hS)).symm.trans (at' i hi))⟩) (λH hs=>⟨xs,hs.seq hS,aa3 _⟩) h0
  (λi ys H G K' hi hp hl hs hG hK=>step i _ ys H G K' (at' i hi) hp hl hs hG hK) done
theorem Bn {K:PySem.W.Frag} {a:Addr} {xs:List V} {fr:St} {tc:TT} {te:TE} {D:Addr} {H1:Hp} {Q:Hp→Prop} (P:Nat→List V→Prop) (hS:SqT K H1 a xs) (hn:xs.length < sizeLine) (hD:H1 D=none) (h0:P 0 [])
  (step:∀i x ys H (G:Hp→Prop) (K':V→Hp→Prop),xs[i]?=some x→P i ys→ys.length≤i→ao H1 H→(∀H3,ao H H3→P (i+1) ys→G H3)→(∀y H4,ao H H4→P (i+1) (ys++[y])→K' y H4)→tc ([some x]++fr) H λb H3=>if b=true then te ([some x]++fr) H3 K' else G H3)
  (done:∀ys H,P xs.length ys→ys.length≤xs.length→ao H1 H→H D=some (.lst ys)→Q H):LC 1 fr (iy 0) tc te (Itt K a) D H1 Q:=by
 have at':∀i,i < xs.length→xs[i]?=some (xs.getD i .non):=λi hi=>by
  rw[aam,aa5 hi];rfl
 exact xv xs.length (λi=>xs.getD i .non) P hn hD (λi H hi hs=>⟨xs,_,hs.tup hS,at' i hi⟩)
  (λi H x H' hi hs hy=>⟨hy.1,aac ((hy.2 xs (hs.tup hS)).symm.trans (at' i hi))⟩) (λH hs=>⟨xs,hs.tup hS,aa3 _⟩) h0
  (λi ys H G K' hi hp hl hs hG hK=>step i _ ys H G K' (at' i hi) hp hl hs hG hK) done
theorem lc_str {z:Str} {fr:St} {tc:TT} {te:TE} {D:Addr} {H1:Hp} {Q:Hp→Prop} (P:Nat→List V→Prop) (hn:z.length < sizeLine) (hD:H1 D=none) (h0:P 0 [])
  (step:∀i c ys H (G:Hp→Prop) (K':V→Hp→Prop),z.cps.toList[i]?=some c→P i ys→ys.length≤i→ao H1 H→(∀H3,ao H H3→P (i+1) ys→G H3)→(∀y H4,ao H H4→P (i+1) (ys++[y])→K' y H4)→tc ([some (.str ⟨#[c]⟩)]++fr) H λb H3=>if b=true then te ([some (.str ⟨#[c]⟩)]++fr) H3 K' else G H3)
  (done:∀ys H,P z.length ys→ys.length≤z.length→ao H1 H→H D=some (.lst ys)→Q H):LC 1 fr (iy 0) tc te (Its z) D H1 Q:=by
 have at':∀i,i < z.length→z.cps[i]?=some (z.cps.getD i 0):=λi hi=>by
  have hi':i < z.cps.size:=hi;rw[ac1 hi',Array.getD_eq_getD_getElem?,ac1 hi'];rfl
 refine xv z.length (λi=>.str ⟨#[z.cps.getD i 0]⟩) P hn hD (λi H hi _=>hi) (λi H x H' hi hs hy=>?_) (λH hs=>rfl) h0
  (λi ys H G K' hi hp hl hs hG hK=>step i _ ys H G K' (by rw[Array.getElem?_toList];exact at' i hi) hp hl hs hG hK) done
 obtain ⟨e,c,hc,rfl⟩:=hy;rw[at' i hi] at hc;cases hc
 exact ⟨e,rfl⟩
theorem zg {lo:Int} {n:Nat} {fr:St} {tc:TT} {te:TE} {D:Addr} {H1:Hp} {Q:Hp→Prop} (P:Nat→List V→Prop) (hn:n < sizeLine) (hD:H1 D=none) (h0:P 0 [])
  (step:∀(i:Nat) ys H (G:Hp→Prop) (K':V→Hp→Prop),i < n→P i ys→ys.length≤i→ao H1 H→(∀H3,ao H H3→P (i+1) ys→G H3)→(∀y H4,ao H H4→P (i+1) (ys++[y])→K' y H4)→tc ([some (.int (lo+i))]++fr) H λb H3=>if b=true then te ([some (.int (lo+i))]++fr) H3 K' else G H3)
  (done:∀ys H,P n ys→ys.length≤n→ao H1 H→H D=some (.lst ys)→Q H):LC 1 fr (iy 0) tc te (Itr lo n) D H1 Q:=
 xv n (λi=>.int (lo+i)) P hn hD (λi H hi _=>hi) (λi H x H' hi hs hy=>hy) (λH hs=>aa3 _) h0 step done
section
variable {X:Cx} {x:Str} {pos:Pos}
theorem Mg {z:Str} {t:Tok} (hm:X.mg x=some (.str z t)) (hg:Gl X x:=by rfl) (hd:(x==("__debug__":Str))=false:=by decide+kernel):PE X (.Name x pos) (tC (.str z)):=wu hg hm ⟨t,rfl⟩ hd
theorem Lg {z:Int} {t:Tok} (hm:X.mg x=some (.int z t)) (hg:Gl X x:=by rfl) (hd:(x==("__debug__":Str))=false:=by decide+kernel):PE X (.Name x pos) (tC (.int z)):=wu hg hm ⟨t,rfl⟩ hd
theorem Lo {a:Addr} (hm:X.mg x=some (.ref a)) (hg:Gl X x:=by rfl) (hd:(x==("__debug__":Str))=false:=by decide+kernel):PE X (.Name x pos) (tC (.ref a)):=wu hg hm rfl hd
theorem pe_gty {T:String} (hm:X.mg x=none) (hv:bootBuiltins x=some (.type T)) (hg:Gl X x:=by rfl) (hn:x≠"__name__":=by decide+kernel) (hd:(x==("__debug__":Str))=false:=by decide+kernel):PE X (.Name x pos) (tC (.ty T)):=L3 hg hm hv rfl hn hd
end
theorem b8:bootBuiltins "len"=some (.builtin "len"):=by decide+kernel
theorem Hy:bootBuiltins "all"=some (.builtin "all"):=by decide+kernel
theorem b_sum:bootBuiltins "sum"=some (.builtin "sum"):=by decide+kernel
theorem cz:bootBuiltins "isinstance"=some (.builtin "isinstance"):=by decide+kernel
theorem b_bool:bootBuiltins "bool"=some (.type "bool"):=by decide+kernel
theorem uc:bootBuiltins "int"=some (.type "int"):=by decide+kernel
theorem sy:bootBuiltins "str"=some (.type "str"):=by decide+kernel
theorem mf:bootBuiltins "tuple"=some (.type "tuple"):=by decide+kernel
theorem minusS:("-":Str)=⟨#[45]⟩:=by decide+kernel
theorem Iq:("0":Str)=⟨#[48]⟩:=by decide+kernel
theorem vi {a b:Str}:a=b↔a.cps.toList=b.cps.toList:=by
 constructor
 ·intro e;rw[e]
 ·intro e;cases a;cases b
  exact congrArg Str.mk (Array.toList_inj.mp e)
theorem len_list (z:Str):z.length=z.cps.toList.length:=by
 show z.cps.size=_
 rw[abn]
theorem Lc (z:Str):Txt.startswith z ("-":Str)=decide (z.cps.toList.head?=some 45):=by
 rw[minusS];unfold Txt.startswith;rw[ace,abb,decide_eq_true_eq,decide_eq_true_eq,StrLaws.subAt_one z 45 0,adp]
theorem cut1 (z:Str):(cj z (some 1) none).cps.toList=z.cps.toList.tail:=by
 unfold cj;show ((z.cps.toList.drop (HT.sIx z.length 0 (some 1))).take (z.length - HT.sIx z.length 0 (some 1)))=z.cps.toList.tail
 have e:HT.sIx z.length 0 (some 1)=min 1 z.length:=by
  show (if (1:Int) < 0 then ((1:Int)+(z.length:Int)).toNat else min (1:Int).toNat z.length)=_
  rw[if_neg (by decide)];rfl
 rw[e];have hl:=len_list z;cases h:z.cps.toList with
 | nil=>rw[h] at hl;simp
 | cons c r=>
  rw[h] at hl;have h1:min 1 z.length=1:=by rw[hl,aa8];omega
  rw[h1,List.drop_one,List.tail_cons,hl,aa8,Nat.add_sub_cancel,aat]
theorem E6 {z:Str} {lo hi:Option Int} {c:Nat} (h:c∈(cj z lo hi).cps.toList):c∈z.cps.toList:=by
 unfold cj at h;exact ab8 (ab9 (by simpa using h))
theorem cxOf_K {CX:CXT} {P:Program} {w:World} {K:PySem.W.Frag} {mg:Str→Option Value} {base:Heap} {N:List Str} {qual:Str} {scope:Scope} {f:Addr} {cd:Value} {A:Around} {outer:List Env} {s:Shared} {H:Hp} {E:XK}:(kq CX P w K mg base N qual scope f cd A outer s H E).K=K:=rfl
theorem nox_K {X:Cx}:X.nox.K=X.K:=rfl
theorem oq (z:Str):z.length=z.cps.toList.length:=len_list z
inductive ze:List Expr→List V→Prop where
 | nil:ze [] []
 | str {x:Str} {j:Nat} {pos:Pos} {es:List Expr} {vs:List V} (h:ze es vs):ze (.Constant (.str x) j pos::es) (.str x::vs)
 | int {i:Int} {j:Nat} {pos:Pos} {es:List Expr} {vs:List V} (h:ze es vs):ze (.Constant (.int i) j pos::es) (.int i::vs)
def tVals (vs:List V):TA:=λ_ H Q=>Q vs H
theorem Hj {X:Cx} {es:List Expr} {vs:List V} (h:ze es vs):PA X es (tVals vs):=by
 induction h with
 | nil=>exact Aw
 | str _ ih=>exact mw J7 ih
 | int _ ih=>exact mw Hi ih
def ForW (g:TG) (tb:TS) (D:Ends) (J:It) (σ:St) (H1:Hp):Prop:=∃W:Nat→Nat→St→Hp→Prop,(∃m,W 0 m σ H1)∧∀i m σ H,W i m σ H→
 (J.stop i H∧D.nx σ H)∨(J.go i H∧∃N:St→Hp→Prop,(∀σ' H',N σ' H'→∃m',m' < m∧W (i+1) m' σ' H')∧∀x H',J.yld i H x H'→g x σ H' λσ2 H2=>tb { D with nx:=N,ct:=N,bk:=D.nx } σ2 H2)
theorem La (wi:TI) (g:TG) (tb:TS) (D:Ends) (σ:St) (H:Hp):tFor wi g tb D σ H=wi σ H λJ H1=>ForW g tb D J σ H1:=rfl
section
variable {K:PySem.W.Frag} {a:Addr} {xs:List V} {g:TG} {tb:TS} {D:Ends} {σ:St} {H:Hp}
theorem gn (Pv:Nat→St→Hp→Prop) (h0:Pv 0 σ H) (hl:∀i σ H,i≤xs.length→Pv i σ H→SqL K H a xs)
  (hs:∀i x σ H,xs[i]?=some x→Pv i σ H→g x σ H λσ2 H2=>tb { D with nx:=Pv (i+1),ct:=Pv (i+1),bk:=D.nx } σ2 H2) (hd:∀σ H,Pv xs.length σ H→D.nx σ H):ForW g tb D (Itl K a) σ H:=Jh Pv h0 hl hs hd
theorem km {lo:Int} {n:Nat} (Pv:Nat→St→Hp→Prop) (h0:Pv 0 σ H)
  (hs:∀i σ H,i < n→Pv i σ H→g (.int (lo+i)) σ H λσ2 H2=>tb { D with nx:=Pv (i+1),ct:=Pv (i+1),bk:=D.nx } σ2 H2) (hd:∀σ H,Pv n σ H→D.nx σ H):ForW g tb D (Itr lo n) σ H:=Gz Pv h0 hs hd
end
end L2
namespace Pc
open PySem PySem.Spec L2 PyProof.Rows
noncomputable abbrev sf:Str:="abcdefghijklmnopqrstuvwxyz"
noncomputable abbrev Ao:Str:="0123456789"
noncomputable def i3:List V:=[.str "add",.str "sub",.str "mul",.str "neg",.str "any",.str "var",.str "put",.str "load",.str "out"]
noncomputable def qa (z y:Str):Bool:=z.cps.toList.all λc=>decide (c∈y.cps.toList)
noncomputable def ax (z:Str):Bool:=decide (1≤z.length)&&(decide (z.length≤8)&&(qa z sf&&!inV (.str z) i3))
noncomputable def eh (l:List Nat):List Nat:=if l.head?=some 45 then l.tail else l
noncomputable def cg (z:Str):Bool:=decide (1≤(eh z.cps.toList).length)&&(decide ((eh z.cps.toList).length≤60)&&(((eh z.cps.toList).all λc=>decide (c∈Ao.cps.toList))&&(decide (z.cps.toList=[48])||decide ((eh z.cps.toList).head?≠some 48))))
def my:Sp:=λvs H Q _=>∃z y,vs=[.str z,.str y]∧z.length≤1000∧∀H',ao H H'→Q (.bl (qa z y)) H'
def gh:Sp:=λvs H Q _=>∃z,vs=[.str z]∧z.length≤1000∧∀H',ao H H'→Q (.bl (ax z)) H'
def jx:Sp:=λvs H Q _=>∃z,vs=[.str z]∧z.length≤1000∧∀H',ao H H'→Q (.bl (cg z)) H'
theorem big {n:Nat} (h:n≤1000):n≤sizeLine:=aak h (by decide)
theorem at0 (l:List Nat) (h:l≠[]):∃c,atI l 0=some c∧l.head?=some c:=by
 cases l with
 | nil=>exact absurd rfl h
 | cons a r=>exact ⟨a,ay (xs:=a::r) (j:=0) rfl,rfl⟩
theorem Hu (c:Nat):((⟨#[c]⟩:Str)=("0":Str))↔c=48:=by
 rw[Iq,vi];show [c]=[48]↔c=48
 simp
theorem M5 (z f:Str) (hf:f.cps.toList=eh z.cps.toList):f.length=(eh z.cps.toList).length:=by rw[oq,hf]
theorem gg {α:Type} (l:List α) (k:Int) (h0:0≤k) (h1:k < (l.length:Int)):∃c,atI l k=some c∧c∈l:=by
 have hk:k.toNat < l.length:=by omega
 have e:k=((k.toNat:Nat):Int):=by omega
 have q:atI l ((k.toNat:Nat):Int)=some l[k.toNat]:=ay (aa5 hk);rw[←e] at q;exact ⟨_,q,aaw hk⟩
theorem join_le (sep:Str) (ys:List Str):(Txt.join sep ys).length≤(ys.map (·.length)).sum+ys.length*sep.length:=by
 show (Builtin.Str.glued sep ys).length≤_
 rw[StrLaws.glued_eq_join];exact StrLaws.join_length_le sep ys
theorem yv:∀(ys:List Str),(∀z∈ys,z.length=1)→(ys.map (·.length)).sum=ys.length
 | [],_=>rfl
 | y::r,h=>by
  rw[aao,ad6,h y aa6,yv r λz hz=>h z (aab _ hz),aa8];omega
theorem Ky (z:Str) (a:Int):(cj z none (some a)).length+(cj z (some a) none).length≤z.length:=by
 show ((z.cps.toList.drop 0).take (HT.sIx z.length z.length (some a) - 0)).toArray.size+((z.cps.toList.drop (HT.sIx z.length 0 (some a))).take (z.length - HT.sIx z.length 0 (some a))).toArray.size≤z.length
 have e:HT.sIx z.length z.length (some a)=HT.sIx z.length 0 (some a):=rfl;rw[e];generalize HT.sIx z.length 0 (some a)=k;have hl:=oq z;simp only[aae,aaa,aaf];omega
theorem Du (x:Nat):(⟨#[x]⟩:Str).length=1:=rfl
theorem Eh (z f:Str) (hf:f.cps.toList=eh z.cps.toList) (hfl:f.length≤1000) {Q:VK} {H:Hp} (q:∀H',ao H H'→Q (.bl (cg z)) H'):
  f.length≤sizeLine∧if (f.length:Int) < 1 then Q (.bl false) H else f.length≤sizeLine∧if 60 < (f.length:Int) then Q (.bl false) H else f.length≤1000∧∀H',ao H H'→
   if (!qa f Ao)=true then Q (.bl false) H' else if z=("0":Str) then Q (.bl true) H' else f.length≤sizeLine∧∃x,atI f.cps.toList 0=some x∧Q (.bl !decide ((⟨#[x]⟩:Str)=("0":Str))) H':=by
 have el:=M5 z f hf;refine ⟨big hfl,bc (λc=>?_) λc=>⟨big hfl,bc (λc2=>?_) λc2=>⟨hfl,λH' hS=>bc (λc3=>?_) λc3=>bc (λc4=>?_) λc4=>⟨big hfl,?_⟩⟩⟩⟩
 ·have e:cg z=false:=by unfold cg;rw[decide_eq_false (by omega)];rfl
  exact e ▸ q H (ao.refl H)
 ·have e:cg z=false:=by unfold cg;rw[decide_eq_false (show ¬(eh z.cps.toList).length≤60 by omega)];simp
  exact e ▸ q H (ao.refl H)
 ·have e:cg z=false:=by
   unfold qa at c3;unfold cg;rw[←hf];rw[ac6] at c3;rw[c3];simp
  exact e ▸ q H' hS
 all_goals
  have c3':((eh z.cps.toList).all λc=>decide (c∈Ao.cps.toList))=true:=by
   unfold qa at c3;rw[hf] at c3;simpa using c3
 ·have e:cg z=true:=by
   unfold cg;rw[c3',decide_eq_true (show 1≤(eh z.cps.toList).length by omega),decide_eq_true (show (eh z.cps.toList).length≤60 by omega),decide_eq_true (show z.cps.toList=[48] by rw[c4,Iq])];rfl
  exact e ▸ q H' hS
 ·obtain ⟨x,h1,h2⟩:=at0 f.cps.toList (by intro h;rw[hf] at h;rw[el,h] at c;simp at c);refine ⟨x,h1,?_⟩;have e:cg z=!decide ((⟨#[x]⟩:Str)=("0":Str)):=by
   unfold cg;have n1:¬z.cps.toList=[48]:=λh=>c4 (vi.mpr (by rw[h,Iq]));rw[c3',decide_eq_true (show 1≤(eh z.cps.toList).length by omega),decide_eq_true (show (eh z.cps.toList).length≤60 by omega),decide_eq_false n1,←hf,h2];simp only[ab0,ac0];rw[←decide_not];apply decide_eq_decide.mpr
   rw[Hu];simp
  exact e ▸ q H' hS
end Pc
namespace L2
open PySem PySem.Spec PyProof.Rows Builtin Builtin.Str
def ModD (w:World) (K:PySem.W.Frag) (a:Addr) (kvs:List (Key×V)):Prop:=
 (a==sysModules)=false∧∀(P:Program) (h:Heap),K.In h→∃vs,KV kvs vs∧h.DictOf (bu P w) a vs
abbrev Em:=Int×Str×Tok×Int×Tok
noncomputable def siE (e:Em):DictEntry:=⟨e.1,.str e.2.1 e.2.2.1,.int e.2.2.2.1 e.2.2.2.2⟩
theorem yq (P:Program) (w:World):∀es:List Em,Pairs (bu P w) (es.map siE) (es.map λe=>((Sum.inr e.2.1:Key),Value.int e.2.2.2.1 e.2.2.2.2))
 | []=>.nil
 | e::r=>.cons (ja P w e.2.1 e.2.2.1) rfl (yq P w r)
theorem si_kv:∀es:List Em,KV (es.map λe=>((Sum.inr e.2.1:Key),V.int e.2.2.2.1)) (es.map λe=>((Sum.inr e.2.1:Key),Value.int e.2.2.2.1 e.2.2.2.2))
 | []=>.nil
 | e::r=>.cons ⟨rfl,⟨_,rfl⟩⟩ (si_kv r)
theorem Mz {w:World} {K:PySem.W.Frag} {a:Addr} {ep:Nat} (es:List Em) (hl:K.lookup a=some ⟨.type "dict",none,.dict (es.map siE).toArray ep,#[]⟩) (ha:(a==sysModules)=false)
  (hh:∀e∈es,e.1=hashStr w e.2.1) (nd:(es.map λe=>(Sum.inr e.2.1:Key)).Nodup):ModD w K a (es.map λe=>(Sum.inr e.2.1,V.int e.2.2.2.1)):=by
 refine ⟨ha,λP h hk=>⟨_,si_kv es,_,_,ep,hk a _ hl,⟨rfl,rfl,rfl⟩,rfl,λe he=>?_,by simpa using yq P w es,?_⟩⟩
 ·have he':e∈es.map siE:=List.mem_toArray.mp he;obtain ⟨r,hr,rfl⟩:=List.mem_map.mp he';exact ⟨Sum.inr r.2.1,ja P w r.2.1 r.2.2.1,hh r hr⟩
 ·rw[abo];exact nd
section
variable {X:Cx} {a:Addr} {kvs:List (Key×V)}
theorem Fe (md:ModD X.w X.K a kvs):OpR X (compareOp .In) (λx y H Q=>∃k,x=kV k∧y=.ref a∧Q (.bl (bz kvs k).isSome) H):=by
 intro pins s σ H x y v u Q I rx ry h;obtain ⟨k,rfl,rfl,q⟩:=h;cases (show u=Value.ref a from ry)
 obtain ⟨vs,rel,dd⟩:=md.2 X.prog _ I.kIn;refine wpAny_in_of (j8 rx) md.1 dd.mapOf ?_;rw[←(rel.val k).jk];exact ⟨.bl _,H,I.tok _,rfl,q⟩
def He (kvs:List (Key×V)) (ty tx:TE):TE:=λσ H Q=>ty σ H λy H2=>tx σ H2 λz H3=>∃k,y=kV k∧Q ((bz kvs k).getD z) H3
theorem Hv {o e f:Expr} {apos cpos:Pos} {ty tx:TE} (ho:PE X o (tC (.ref a))) (md:ModD X.w X.K a kvs) (he:PE X e ty) (hf:PE X f tx) (m:M2 X o "get" apos e f cpos):PE X (.Call (.Attribute o "get" apos) [e,f] [] cpos) (He kvs ty tx):=by
 intro pins s σ H Q I h;refine wpAny_Call_method m.base m.few m.line PySem.F.plainAttrs_dict PySem.F.slot_dict_get PySem.F.type_dict_get (thn (ho pins s σ H (λx H1=>x=.ref a∧H1=H) I ⟨rfl,rfl⟩) λu s1 ⟨x,H1,I1,rx,ex,eH⟩=>?_);subst ex eH;obtain rfl:u=Value.ref a:=rx;obtain ⟨vs,rel,dd⟩:=md.2 X.prog _ I1.kIn;refine ⟨dd.typeIs,λb q=>?_,?_⟩
 ·cases q
  obtain ⟨ob,_,_,h1,h2,_⟩:=dd;exact ⟨ob,h1,h2.2.1⟩
 rw[m.trees];refine Calls.callWith_builtin rfl (Calls.evalArgs_plain (Calls.spliced_cons (thn (he pins s1 σ H1 _ I1 h) λiv s2 ⟨y,H2,I2,ry,q2⟩=>
  Calls.spliced_cons (thn (hf pins s2 σ H2 _ I2 q2) λfv s3 ⟨z,H3,I3,rz,k,ek,q3⟩=>Calls.spliced_nil ?_))))
 subst ek;obtain ⟨vs',rel',dd'⟩:=md.2 X.prog _ I3.kIn;refine call_meetsIn PySem.F.slot_dict_get dd'.typeIs PySem.F.entry_dict_get (PySem.F.args_dict_get_3 _ _ _) (meets_dict_get_default (bu X.prog X.w) a (j8 ry) md.1 fv) ⟨_,dd'.mapOf,⟨_,H3,I3.tok _,?_,q3⟩⟩;exact (rel'.val k).getD rz
theorem j0 (hc:X.calm=true):cm X (.builtin "sum") (λxs H Q=>∃p ns,xs=[.ref p]∧SqL X.K H p (adu V.int ns)∧Q (.int ns.sum) H):=by
 intro pins s σ H xs us Q I r h;obtain ⟨p,ns,rfl,hq,q⟩:=h;obtain ⟨u,rfl,rx⟩:=vals1 r;cases rx
 obtain ⟨its,rv,pl,hz⟩:=I.list hq;have hi:IntsAre its ns:=L2.intsAre_of rv;obtain ⟨ys,hy⟩:=hi.allInts.items;refine sum_intListG (I.ok.hd hc) (by rw[←hy];exact pl.isList) λh' tk t' hk=>⟨.int ns.sum,H,I.kept hk,⟨t',?_⟩,q⟩;have e:ys.toList.map (·.1)=ns:=by
  rw[←nums_intItems,←hy];exact hi.numsOf
 rw[preSum_eq,ac5 (by simp),e]
noncomputable def ag:V→Str
 | .str z=>z
 | .int i=>(toString i:String)
 | _=>Str.empty
def tq:V→Prop
 | .str _=>True
 | .int i=>i.natAbs.log2 < 1920
 | _=>False
theorem ye:cm X (.type "str") (λxs H Q=>∃x,xs=[x]∧tq x∧Q (.str (ag x)) H):=by
 intro pins s σ H xs us Q I r h;obtain ⟨x,rfl,hw,q⟩:=h;obtain ⟨u,rfl,rx⟩:=vals1 r;cases x with
 | str z=>obtain ⟨t,rfl⟩:=rx;exact PySem.P.str_of_str ⟨.str z,H,I,⟨t,rfl⟩,q⟩
 | int i=>obtain ⟨t,rfl⟩:=rx;exact PySem.P.str_of_int hw ⟨.str _,H,I.tok _,⟨_,rfl⟩,q⟩
 | _=>exact hw.elim
theorem eo:cm X (.type "int") (λxs H Q=>∃z n,xs=[.str z]∧PySem.intText? z=some n∧z.length≤640∧Q (.int n) H):=by
 intro pins s σ H xs us Q I r h;obtain ⟨z,n,rfl,hn,hl,q⟩:=h;obtain ⟨u,rfl,rx⟩:=vals1 r;obtain ⟨t,rfl⟩:=rx;exact PySem.W.KIN.call_text hn hl ⟨.int n,H,I.tok _,⟨_,rfl⟩,q⟩
theorem Kb {prog:Program} {w:World} {A:Around} {E:Value→Shared→Prop} {s:Shared} {x y:Str} {t u:Tok} {Q:Value→Shared→Prop} (hy:(y.length==0)=false) (hx:x.length≤1000000)
  (hq:∀(l:List (Str×Tok)) (k:Nat),l.map (·.1)=Txt.split x y→Q (.ref s.heap.objs.size) { s with heap:=s.heap.push { cls:=.type "list",data:=.seq (strValues l).toArray },toks:=k }):
  wpAny (model prog w) A (call (.builtin "str.split") [.str x t,.str y u]) Q E s:=by
 have hz:=sizeLine_eq;cases h1:(decide (x.length < y.length)||decide (Builtin.Str.strKind x < Builtin.Str.strKind y))
 ·cases hf:(occurrences x y 0 x.length (x.length+1)).isEmpty
  ·refine call_meets F.slot_str_split (typeIs_str _ _ _) F.entry_str_split (F.args_str_split_2 _ _) (meets_str_split_sep x y t u h1 hy hf (by omega) ?_) ?_
   ·rw[length_partsBetween];have:=StrLaws.occ_length_le x y 0 x.length (x.length+1);omega
   show wants Q E _ { s with toks:=_,heap:=s.heap.push { cls:=.type "list",data:=.seq (strsFrom s.toks (partsBetween x (occurrences x y 0 x.length (x.length+1)) y.length)).toArray } }
   rw[strsFrom_eq];exact hq (numbered s.toks _) _ ((numbered_texts _ _).trans ((if_neg (ne_true_of_eq_false h1)).trans (if_neg (ne_true_of_eq_false hf))).symm)
  ·exact call_meets F.slot_str_split (typeIs_str _ _ _) F.entry_str_split (F.args_str_split_2 _ _) (meets_str_split_not_found x y t u h1 hy hf)
    (hq [(x,t)] _ ((if_neg (ne_true_of_eq_false h1)).trans (if_pos hf)).symm)
 ·exact call_meets F.slot_str_split (typeIs_str _ _ _) F.entry_str_split (F.args_str_split_2 _ _) (meets_str_split_cannot_occur x y t u h1)
   (hq [(x,t)] _ (if_pos h1).symm)
theorem u7:∀l:List (Str×Tok),Vals ((l.map (·.1)).map V.str) (strValues l)
 | []=>.nil
 | (x,t)::r=>.cons ⟨t,rfl⟩ (u7 r)
theorem split_len (x y:Str):(Txt.split x y).length≤x.length+2:=by
 unfold Txt.split;split
 ·show 1≤_;omega
 ·split
  ·show 1≤_;omega
  ·rw[length_partsBetween];have:=StrLaws.occ_length_le x y 0 x.length (x.length+1);omega
theorem p6:MtR X "str.split" (λx xs H Q=>∃z y,x=.str z∧xs=[.str y]∧(y.length==0)=false∧z.length≤1000000∧∀p,H p=none→Q (.ref p) (upd H p (.lst ((Txt.split z y).map V.str)))):=by
 intro pins s σ H x xs v us Q I rx rv h;obtain ⟨z,y,rfl,rfl,hy,hz,q⟩:=h;obtain ⟨t,rfl⟩:=rx;obtain ⟨u,rfl,ru⟩:=rv.one;obtain ⟨t',rfl⟩:=ru;refine Kb hy hz λl k hl=>?_;have hs:=sizeLine_eq;have hn:=split_len z y;refine ⟨.ref s.heap.objs.size,_,I.lnew (t':=k) (ys:=(Txt.split z y).map V.str) (by rw[←hl];exact u7 l) (by rw[aa2];omega),rfl,q _ I.fresh⟩
end
end L2
namespace L2
open PySem PySem.Spec PyProof.Rows
section
variable {X:Cx} (K:PySem.W.Frag) (hK:X.K=K)
include hK
theorem ma:IxR X (sm K):=by subst hK;exact E4
theorem Dk:IxR X (rIxT K):=by subst hK;exact ig
end
def tMid (t u:TS):TS:=λD σ H=>∃M:St→Hp→Prop,t { D with nx:=M } σ H∧∀σ' H',M σ' H'→u D σ' H'
theorem cf {t u:TS} {D:Ends} {σ:St} {H:Hp} (M:St→Hp→Prop) (h1:t { D with nx:=M } σ H) (h2:∀σ' H',M σ' H'→u D σ' H'):tMid t u D σ H:=⟨M,h1,h2⟩
section
variable {X:Cx} {st:Stmt} {rest:List Stmt} {t u:TS}
theorem Mp (h1:PS X st t) (h2:PSs X rest u):PSs X (st::rest) (tMid t u):=by
 intro pins s σ H D I h;obtain ⟨M,h,hM⟩:=h;refine wpAny_execs_cons (thn (h1 pins s σ H { D with nx:=M } I h) λf s1 q=>?_);cases f with
 | next=>
  obtain ⟨σ',H',I',q⟩:=q;exact h2 pins s1 σ' H' D I' (hM σ' H' q)
 | ret v=>exact q
 | brk=>exact q
 | cont=>exact q
end
theorem M8 {K:PySem.W.Frag} {z:Str} {H:Hp}:tyV K "str" (.str z) H=True:=eq_true rfl
theorem fo {K:PySem.W.Frag} {a:Addr} {xs:List V} {H:Hp} (h:H a=some (.lst xs)):tyV K "list" (.ref a) H:=.inl ⟨rfl,xs,SqL.of h⟩
theorem Jn {K:PySem.W.Frag} {a:Addr} {kvs:List (Key×V)} {H:Hp} (h:H a=some (.dK kvs)):tyV K "dict" (.ref a) H:=.inr (.inr (.inl ⟨rfl,.inl ⟨kvs,h⟩⟩))
theorem bq {K:PySem.W.Frag} {H:Hp} {t:Addr} {xs:List V} {i:Int} {v:V} {Q:VK} (h:H t=some (.tup xs)) (hv:atI xs i=some v) (q:Q v H):rIxT K (.ref t) (.int i) H Q:=⟨t,xs,i,v,rfl,rfl,SqT.of h,hv,q⟩
theorem ah {K:PySem.W.Frag} {H:Hp} {t:Addr} {xs:List V} {i:Int} {v:V} {Q:VK} (h:H t=some (.lst xs)) (hv:atI xs i=some v) (q:Q v H):sm K (.ref t) (.int i) H Q:=⟨t,xs,i,v,rfl,rfl,SqL.of h,hv,q⟩
theorem dv {H:Hp} {a b:Addr} {xs ys:List V} {Q:VK} (h1:H a=some (.lst xs)) (h2:H b=some (.lst ys)) (hz:xs.length+ys.length≤sizeLine) (q:∀p,H p=none→Q (.ref p) (upd H p (.lst (xs++ys)))):rCat (.ref a) (.ref b) H Q:=⟨a,b,xs,ys,rfl,rfl,h1,h2,hz,q⟩
theorem fb {K:PySem.W.Frag} {H:Hp} {l:Addr} {xs:List V} {y:V} {Q:VK} (h:H l=some (.lst xs)) (hz:xs.length < sizeLine) (q:Q .non (upd H l (.lst (xs++[y])))):tyV K "list" (.ref l) H∧Dt (.ref l) [y] H Q:=
 ⟨fo h,l,xs,y,rfl,rfl,h,hz,q⟩
end L2
namespace Pc
noncomputable def fi (c:Nat):List (List Nat)→List Nat
 | []=>[]
 | [x]=>x
 | x::y::r=>x++c::fi c (y::r)
theorem Kg {c:Nat}:∀{x x' r r':List Nat},c∉x→c∉x'→x++c::r=x'++c::r'→x=x'∧r=r'
 | [],[],r,r',_,_,h=>⟨rfl,by simpa using h⟩
 | [],a::x',r,r',_,h2,h=>by
  have:c=a:=by simpa using congrArg List.head? h
  exact absurd (by rw[this];exact aa6) h2
 | a::x,[],r,r',h1,_,h=>by
  have:a=c:=by simpa using congrArg List.head? h
  exact absurd (by rw[this];exact aa6) h1
 | a::x,b::x',r,r',h1,h2,h=>by
  have e:a=b∧x++c::r=x'++c::r':=by simpa using h
  obtain ⟨e1,e2⟩:=Kg (λm=>h1 (aab _ m)) (λm=>h2 (aab _ m)) e.2;exact ⟨by rw[e.1,e1],e2⟩
theorem m8 {c:Nat}:∀{xs ys:List (List Nat)},xs≠[]→ys≠[]→(∀x∈xs,c∉x)→(∀y∈ys,c∉y)→fi c xs=fi c ys→xs=ys
 | [],_,h,_,_,_,_=>absurd rfl h
 | _::_,[],_,h,_,_,_=>absurd rfl h
 | [x],[y],_,_,_,_,h=>by rw[show x=y from h]
 | [x],y::z::r,_,_,h1,_,h=>by
  have h:x=y++c::fi c (z::r):=h;exact absurd (by rw[h];simp) (h1 x aa6)
 | x::z::r,[y],_,_,_,h2,h=>by
  have h:x++c::fi c (z::r)=y:=h;exact absurd (by rw[←h];simp) (h2 y aa6)
 | x::z::r,y::z'::r',_,_,h1,h2,h=>by
  obtain ⟨e1,e2⟩:=Kg (h1 x aa6) (h2 y aa6) h;have e3:=m8 (xs:=z::r) (ys:=z'::r') (by simp) (by simp) (λx hx=>h1 x (aab _ hx)) (λx hx=>h2 x (aab _ hx)) e2;rw[e1,e3]
end Pc
namespace Pc
open PySem PySem.Spec L2 PyProof.Rows
noncomputable abbrev parts:List (Key×V):=[(Sum.inr "add",.int 2),(Sum.inr "sub",.int 2),(Sum.inr "mul",.int 2),(Sum.inr "neg",.int 1)]
noncomputable def arS (z:Str):Nat:=if z="add" then 2 else if z="sub" then 2 else if z="mul" then 2 else if z="neg" then 1 else 0
noncomputable def arV:V→Nat
 | .str z=>arS z
 | _=>0
def isW (v:V):Prop:=∃k:Key,v=kV k
theorem isW.str (z:Str):isW (.str z):=⟨Sum.inr z,rfl⟩
theorem Fq (k:Key):(bz parts k).getD (.int 0)=.int (arV (kV k)):=by
 cases k with
 | inl i=>rfl
 | inr z=>
  show (bz parts (Sum.inr z)).getD (.int 0)=.int (arS z)
  unfold arS;by_cases h1:z="add"
  ·subst h1;rw[bg rfl,if_pos rfl];rfl
  rw[bf (λe=>h1 (Sum.inr.inj e).symm),if_neg h1];by_cases h2:z="sub"
  ·subst h2;rw[bg rfl,if_pos rfl];rfl
  rw[bf (λe=>h2 (Sum.inr.inj e).symm),if_neg h2];by_cases h3:z="mul"
  ·subst h3;rw[bg rfl,if_pos rfl];rfl
  rw[bf (λe=>h3 (Sum.inr.inj e).symm),if_neg h3];by_cases h4:z="neg"
  ·subst h4;rw[bg rfl,if_pos rfl];rfl
  rw[bf (λe=>h4 (Sum.inr.inj e).symm),if_neg h4];rfl
theorem Ir (z:Str):(bz parts (Sum.inr z)).isSome=decide (0 < arS z):=by
 unfold arS;by_cases h1:z="add"
 ·subst h1;rw[bg rfl,if_pos rfl];rfl
 rw[bf (λe=>h1 (Sum.inr.inj e).symm),if_neg h1];by_cases h2:z="sub"
 ·subst h2;rw[bg rfl,if_pos rfl];rfl
 rw[bf (λe=>h2 (Sum.inr.inj e).symm),if_neg h2];by_cases h3:z="mul"
 ·subst h3;rw[bg rfl,if_pos rfl];rfl
 rw[bf (λe=>h3 (Sum.inr.inj e).symm),if_neg h3];by_cases h4:z="neg"
 ·subst h4;rw[bg rfl,if_pos rfl];rfl
 rw[bf (λe=>h4 (Sum.inr.inj e).symm),if_neg h4];rfl
theorem G5 {z:Str} (h:0 < arS z):z="add"∨z="sub"∨z="mul"∨z="neg":=by
 unfold arS at h;by_cases h1:z="add"
 ·exact .inl h1
 by_cases h2:z="sub"
 ·exact .inr (.inl h2)
 by_cases h3:z="mul"
 ·exact .inr (.inr (.inl h3))
 by_cases h4:z="neg"
 ·exact .inr (.inr (.inr h4))
 rw[if_neg h1,if_neg h2,if_neg h3,if_neg h4] at h;exact absurd h (by decide)
theorem toDigits_len:∀(n m:Nat),m < 10 ^ (n+1)→(abr 10 m).length≤n+1
 | 0,m,h=>by rw[ac4 (by simpa using h)];exact aa3 _
 | n+1,m,h=>by
  by_cases hm:m < 10
  ·rw[ac4 hm];show 1≤_
   omega
  have hr:m % 10 < 10:=Nat.mod_lt m (by decide);have t:abr 10 (m / 10)++abr 10 (m % 10)=abr 10 (10*(m / 10)+m % 10):=ad0 (by decide) (by omega) hr;rw[aed] at t;have ih:=toDigits_len n (m / 10) (by rw[Nat.pow_succ] at h;omega);rw[←t,aa4,ac4 hr];show _+1≤_
  omega
theorem digitChar_ne:∀d:Nat,0 < d→d < 10→(Nat.digitChar d).toNat≠48:=by
 intro d h1 h2;have:d=1∨d=2∨d=3∨d=4∨d=5∨d=6∨d=7∨d=8∨d=9:=by omega
 rcases this with rfl | rfl | rfl | rfl | rfl | rfl | rfl | rfl | rfl <;> decide
theorem j6 (m:Nat):0 < m→∃c r,(abr 10 m).map Char.toNat=c::r∧c≠48:=by
 induction m using Nat.strongRecOn with
 | _ m ih=>
  intro h0;by_cases h:m < 10
  ·rw[ac4 h];exact ⟨_,_,rfl,digitChar_ne m h0 h⟩
  ·have hm:m % 10 < 10:=Nat.mod_lt m (by decide);have t:abr 10 (m / 10)++abr 10 (m % 10)=abr 10 (10*(m / 10)+m % 10):=ad0 (by decide) (by omega) hm;rw[aed] at t;obtain ⟨c,r,e,hc⟩:=ih (m / 10) (by omega) (by omega);rw[←t,aad,e];exact ⟨c,_,rfl,hc⟩
noncomputable def fz (m:Nat):List Nat:=(abr 10 m).map Char.toNat
theorem dm (m:Nat):NumText.AllDigits (fz m):=by
 intro c hc;obtain ⟨ch,hch,e⟩:=List.mem_map.mp hc;have r:=PyProof.Rows.digit_range (Nat.isDigit_of_mem_toDigits (by decide) (by decide) hch);rw[←e];exact r
theorem vt (m:Nat):fz m≠[]:=by
 unfold fz;intro e;have h:=PySem.toDigits_len_ge 10 m;rw[List.map_eq_nil_iff.mp e] at h;exact absurd h (by decide)
theorem Ak {m:Nat} (h:m < 10 ^ 60):(fz m).length≤60:=by
 unfold fz;rw[aa2];exact toDigits_len 59 m h
theorem uh (m:Nat):fz m=[48]∨∃c r,fz m=c::r∧c≠48:=by
 cases m with
 | zero=>exact .inl rfl
 | succ m=>exact .inr (j6 (m+1) (Nat.succ_pos m))
theorem yo (m:Nat):(ag (.int (m:Int))).cps.toList=fz m:=PySem.W.KIN.signs_num m
theorem zj (m:Nat):(ag (.int (acb m))).cps.toList=45::fz (m+1):=by
 show (Str.ofString (toString (acb m))).cps.toList=_
 rw[PyProof.Rows.signs_ofString];show ("-"++Nat.repr (m+1)).toList.map Char.toNat=_
 rw[String.toList_append,aad,Nat.toList_repr];rfl
theorem vh (c:Nat):c∈Ao.cps.toList↔(48≤c∧c≤57):=by
 have e:Ao.cps.toList=[48,49,50,51,52,53,54,55,56,57]:=by decide+kernel
 rw[e];simp only[aav,aar,or_false];omega
theorem ya (c:Nat):c∈sf.cps.toList↔(97≤c∧c≤122):=by
 have e:sf.cps.toList=List.range' 97 26:=by decide+kernel
 rw[e,List.mem_range'];constructor
 ·rintro ⟨i,h1,h2⟩;omega
 ·intro h;exact ⟨c - 97,by omega,by omega⟩
theorem yj (m:Nat):((fz m).all λc=>decide (c∈Ao.cps.toList))=true:=by
 rw[ac8];intro c hc;exact decide_eq_true ((vh c).mpr (dm m c hc))
theorem Gf (m:Nat):(fz m).head?≠some 45:=by
 rcases uh m with h | ⟨c,r,h,_⟩
 ·rw[h];decide
 ·rw[h];intro e;have:=dm m c (by rw[h];exact aa6);have e':c=45:=by simpa using e
  omega
theorem Hg {m:Nat} (h:m < 10 ^ 60):cg (ag (.int (m:Int)))=true∧PySem.intText? (ag (.int (m:Int)))=some (m:Int)∧(ag (.int (m:Int))).length≤61:=by
 have e:=yo m;have hl:=Ak h;have hn:=vt m;refine ⟨?_,?_,by rw[oq,e];omega⟩
 ·unfold cg;rw[e];have f:eh (fz m)=fz m:=by unfold eh;rw[if_neg (Gf m)]
  rw[f,yj,decide_eq_true (show 1≤(fz m).length from List.length_pos_iff.mpr hn),decide_eq_true hl];rcases uh m with h | ⟨c,r,h,hc⟩
  ·rw[h];rfl
  ·have:(fz m).head?≠some 48:=by rw[h];intro q;exact hc (by simpa using q)
   rw[decide_eq_true this];simp
 ·have q:=PySem.intText_digits (x:=ag (.int (m:Int))) (by rw[e];exact dm m) (by rw[e];exact hn) (by rw[oq,e];omega);rw[e] at q;rw[q];unfold fz;rw[PySem.W.KIN.val_back]
theorem Fi {m:Nat} (h:m+1 < 10 ^ 60):cg (ag (.int (acb m)))=true∧PySem.intText? (ag (.int (acb m)))=some (acb m)∧(ag (.int (acb m))).length≤61:=by
 have e:=zj m;have hl:=Ak h;have hn:=vt (m+1);refine ⟨?_,?_,by rw[oq,e,aa8];omega⟩
 ·unfold cg;rw[e];have f:eh (45::fz (m+1))=fz (m+1):=by unfold eh;simp
  rw[f,yj,decide_eq_true (show 1≤(fz (m+1)).length from List.length_pos_iff.mpr hn),decide_eq_true hl];rcases j6 (m+1) (Nat.succ_pos m) with ⟨c,r,h,hc⟩
  have:(fz (m+1)).head?≠some 48:=by
   show ((abr 10 (m+1)).map Char.toNat).head?≠some 48
   rw[h];intro q;exact hc (by simpa using q)
  rw[decide_eq_true this];simp
 ·have q:=PySem.intText_neg (x:=ag (.int (acb m))) e (dm _) hn (by rw[oq,e,aa8];omega);rw[q];unfold fz;rw[PySem.W.KIN.val_back];rfl
def okW:V→Prop
 | .int i=>i.natAbs < 10 ^ 60
 | .str z=>ax z=true∨0 < arS z
 | _=>False
theorem dz {i:Int} (h:i.natAbs < 10 ^ 60):cg (ag (.int i))=true∧PySem.intText? (ag (.int i))=some i∧(ag (.int i)).length≤61:=by
 cases i with
 | ofNat m=>exact Hg h
 | negSucc m=>exact Fi h
theorem m5 {m:Nat} (h:m < 10 ^ 60):m.log2 < 1920:=by
 by_cases h0:m=0
 ·subst h0;decide
 ·exact (adq h0).mpr (aah h (by decide))
theorem By {z:Str} (h:ax z=true):z.cps.toList≠[]∧z.length≤8∧∀c∈z.cps.toList,97≤c∧c≤122:=by
 unfold ax qa at h;simp only[abb,decide_eq_true_eq,ac8] at h;obtain ⟨h1,h2,h3,_⟩:=h;exact ⟨λe=>by rw[oq,e] at h1;exact absurd h1 (by decide),h2,λc hc=>(ya c).mp (h3 c hc)⟩
theorem Ih {z:Str} (h:0 < arS z):z.cps.toList≠[]∧z.length≤8∧∀c∈z.cps.toList,97≤c∧c≤122:=by
 rcases G5 h with rfl | rfl | rfl | rfl <;> refine ⟨by decide+kernel,by decide+kernel,?_⟩ <;> decide+kernel
theorem vd {z:Str} (h:okW (.str z)):z.cps.toList≠[]∧z.length≤8∧∀c∈z.cps.toList,97≤c∧c≤122:=h.elim By Ih
theorem Fo {z:Str} (h:okW (.str z)):cg z=false:=by
 obtain ⟨h1,h2,h3⟩:=vd h;unfold cg;have f:eh z.cps.toList=z.cps.toList:=by
  unfold eh;rw[if_neg];intro e;have:=h3 45 (by rw[List.head?_eq_some_iff] at e;obtain ⟨r,e⟩:=e;rw[e];exact aa6);omega
 rw[f];have:(z.cps.toList.all λc=>decide (c∈Ao.cps.toList))=false:=by
  rw[ae7];intro q;rw[ac8] at q;obtain ⟨c,r,e⟩:=List.exists_cons_of_ne_nil h1;have hc:c∈z.cps.toList:=by rw[e];exact aa6
  have:=(vh c).mp (of_decide_eq_true (q c hc));have:=h3 c hc;omega
 rw[this];simp
theorem Bb:(" ":Str)=⟨#[32]⟩:=by decide+kernel
theorem gw:∀xs:List Str,(Str.join (⟨#[32]⟩:Str) xs).cps.toList=fi 32 (xs.map (·.cps.toList))
 | []=>rfl
 | [x]=>rfl
 | x::y::r=>by
  show (x++(⟨#[32]⟩:Str)++Str.join ⟨#[32]⟩ (y::r)).cps.toList=x.cps.toList++32::fi 32 ((y::r).map (·.cps.toList))
  rw[←gw (y::r),Str.cps_append,Str.cps_append];simp
theorem zb (x y:Str):Txt.split x y≠[]:=by
 unfold Txt.split;split
 ·simp
 ·split
  ·simp
  ·intro e;have:=PySem.length_partsBetween x (Builtin.Str.occurrences x y 0 x.length (x.length+1)) y.length;rw[e] at this;simp at this
theorem g7 (xs:List Str) (h:xs≠[]) (hf:∀x∈xs,32∉x.cps.toList):Txt.split (Txt.join " " xs) " "=xs:=by
 have e1:Txt.join " " xs=Str.join ⟨#[32]⟩ xs:=by
  rw[Bb];exact StrLaws.glued_eq_join _ xs
 rw[e1,Bb];have hj:=StrLaws.join_split (Str.join ⟨#[32]⟩ xs) ⟨#[32]⟩;have hfr:=StrLaws.split_free (Str.join ⟨#[32]⟩ xs) 32;have hne:=zb (Str.join ⟨#[32]⟩ xs) ⟨#[32]⟩;generalize Txt.split (Str.join ⟨#[32]⟩ xs) ⟨#[32]⟩=ys at hj hfr hne;have hc:fi 32 (ys.map (·.cps.toList))=fi 32 (xs.map (·.cps.toList)):=by rw[←gw,←gw,hj]
 have:=m8 (by simpa using hne) (by simpa using h) (λx hx=>by obtain ⟨z,hz,rfl⟩:=List.mem_map.mp hx;exact hfr z hz) (λx hx=>by obtain ⟨z,hz,rfl⟩:=List.mem_map.mp hx;exact hf z hz) hc;have inj:∀a b:List Str,a.map (·.cps.toList)=b.map (·.cps.toList)→a=b:=by
  intro a;induction a with
  | nil=>intro b e;cases b with
   | nil=>rfl
   | cons _ _=>cases e
  | cons x r ih=>intro b e;cases b with
   | nil=>cases e
   | cons y q=>
    simp only[aao,adm] at e;rw[vi.mpr e.1,ih q e.2]
 exact inj _ _ this
def Cz:Sp:=λvs H Q _=>∃v,vs=[v]∧isW v∧Q (.int (arV v)) H
def ak (d:Addr) (H H':Hp):Prop:=∀b o,b≠d→H b=some o→H' b=some o
theorem ak.refl (d:Addr) (H:Hp):ak d H H:=λ_ _ _ h=>h
theorem ak.trans {d:Addr} {H H1 H2:Hp} (a:ak d H H1) (b:ak d H1 H2):ak d H H2:=λc o n h=>b c o n (a c o n h)
theorem ak.of {d:Addr} {H H':Hp} (a:ao H H'):ak d H H':=λb o _ h=>a b o h
theorem ak.upd {d p:Addr} {H H':Hp} (a:ak d H H') (hp:H p=none) (o:HO):ak d H (L2.upd H' p o):=λb u n h=>by rw[ai (aq h hp)];exact a b u n h
def Names (H:Hp) (l:Addr) (k:Nat):Prop:=∃zs:List Str,H l=some (.lst (adu V.str zs))∧zs.length=k∧∀z∈zs,ax z=true
theorem Eb {z:Str}:∀{xs:List V},inV (.str z) xs=true→.str z∈xs:=by
 intro xs h;unfold inV at h;obtain ⟨y,hy,e⟩:=List.any_eq_true.mp h;cases y with
 | str x=>
  have e':x=z:=by simpa [eqV] using e
  exact e' ▸ hy
 | _=>simp[eqV] at e
theorem Jv {z:Str} (h1:1≤z.length) (h8:z.length≤8) (hc:∀c∈z.cps.toList,97≤c∧c≤122) (hk:inV (.str z) i3=false):ax z=true:=by
 unfold ax qa;rw[decide_eq_true h1,decide_eq_true h8,hk];have:(z.cps.toList.all λc=>decide (c∈sf.cps.toList))=true:=List.all_eq_true.mpr λc h=>decide_eq_true ((ya c).mpr (hc c h));rw[this];rfl
theorem let_at (k:Int):∃c:Nat,atI sf.cps.toList (k % 26)=some (97+c)∧c < 26:=by
 obtain ⟨c,h1,h2⟩:=gg sf.cps.toList (k % 26) (abh _ (by decide)) (by rw[show sf.cps.toList.length=26 by decide+kernel];omega);have h:=(ya c).mp h2;exact ⟨c - 97,by rw[show 97+(c - 97)=c by omega];exact h1,by omega⟩
noncomputable def keptS:List Str:=["add","sub","mul","neg","any","var","put","load","out"]
theorem ak.free {d t:Addr} {H H':Hp} {o:HO} (s:ak d H H') (hd:H' d=some o) (ht:H' t=none):H t=none:=by
 cases e:H t with
 | none=>rfl
 | some u=>
  by_cases h:t=d
  ·subst h;rw[hd] at ht;cases ht
  ·rw[s t u h e] at ht;cases ht
theorem vq {zs:List Str} {k:Int} {n:Nat} (hn:zs.length=n) (h0:0≤k) (h1:k < (n:Int)):∃z,atI (zs.map V.str) k=some (.str z)∧z∈zs:=by
 obtain ⟨x,h1,h2⟩:=gg (zs.map V.str) k h0 (by rw[aa2,hn];exact h1);obtain ⟨z,hz,rfl⟩:=List.mem_map.mp h2;exact ⟨z,h1,hz⟩
theorem Hw (ns:List Int) (lo hi:Option Int):∃ms:List Int,ck (ns.map V.int) lo hi=ms.map V.int∧ms.length≤ns.length:=by
 refine ⟨_,by unfold ck;rw[←adw,←abv],?_⟩;rw[aaa,aaf];omega
end Pc
namespace HT
open PySem PySem.Spec PyProof.Rows L2
section
variable {prog:Program} {w:World} {A:Around} {E:Value→Shared→Prop} {s:Shared}
theorem Kk {t b:Addr} {vs ws:List Value} {Q:Value→Shared→Prop} (ht:IsTup s.heap t vs.toArray) (hb:IsTup s.heap b ws.toArray) (hv:vs=[]) (h1:Q (.ref b) s):wpAny (model prog w) A (binaryOp .Add (.ref t) (.ref b)) Q E s:=by
 obtain ⟨⟨cls,dd,data,sl⟩,ho,hc,n,hd⟩:=id ht;obtain ⟨⟨cls2,dd2,data2,sl2⟩,ho2,hc2,n2,hd2⟩:=id hb;simp only at hc hd hc2 hd2;subst hc hd hc2 hd2;exact concat_meets ⟨_,ho,rfl⟩ ⟨_,ho2,rfl⟩ noFill_tuple_add seq_tuple_add PySem.F.slot_tuple_add PySem.F.entry_tuple_add (PySem.F.args_tuple_add_2 _ _)
  (tuple_addW0 t b vs.toArray ws.toArray n n2 dd dd2 sl sl2 (by simp[hv])) ⟨ho,ho2,h1⟩
theorem jv {t sl:Addr} {items:Array Value} {vl vu:Value} {lo hi:Option Int} {Q:Value→Shared→Prop} (ht:IsTup s.heap t items) (hs:s.heap.IsSliceOf sl vl vu .none) (pl:IsPart vl lo) (pu:IsPart vu hi)
  (hw:sIx items.size 0 lo=0∧sIx items.size items.size hi=items.size) (h:Q (.ref t) s) (hsz:items.size≤sizeLine):wpAny (model prog w) A (getItem (.ref t) (.ref sl)) Q E s:=by
 obtain ⟨os,hos,hcs,hds⟩:=id hs;have hTs:s.TypeIs (.ref sl) "slice":=⟨os,hos,hcs⟩;unfold getItem;try with_reducible refine wpAny_holding ?_
 first | refine wpAny_bind (wpAny_pure ?_) | skip
 refine wpAny_bind (wpAny_sequenceKey ht.typeIs (by decide) ?_);refine wpAny_bind (wpAny_callSpecial?_slot (name:=Str.ofString "__getitem__") ht.typeIs PyProof.Rows.slot_tuple_getitem
  (wpAny_call_entry PyProof.Rows.slot_tuple_getitem ht.typeIs entry_tuple_getitem ?_ (args_tuple_getitem _ _)))
 show wpAny _ _ (Builtin.Tuple.tupleItemsOf (.ref t) >>=_) _ _ s
 refine wpAny_bind (tupleItemsOf_ ht ?_);refine wpAny_bind (wpAny_typeOf hTs ?_);rw[if_pos (by decide)];refine wpAny_bind (gs hs pl pu ?_);have hyes:((((sIx items.size 0 lo:Nat):Int)==0&&(1:Int)==1&&(sIx items.size items.size hi - sIx items.size 0 lo)==items.size)=true):=by
  rw[hw.1,hw.2];simp
 show wpAny _ _ (if (((sIx items.size 0 lo:Nat):Int)==0&&(1:Int)==1&&(sIx items.size items.size hi - sIx items.size 0 lo)==items.size)=true then _ else _) _ _ s
 rw[if_pos hyes];refine wpAny_bind ?_;show wpAny _ _ (typeOf (.ref t) >>=λv=>pure (v==.type "tuple")) _ _ s
 refine wpAny_bind (wpAny_typeOf ht.typeIs (wpAny_pure ?_));rw[if_pos (by decide)];refine wpAny_bind (wpAny_rule ?_);first
  | exact wpAny_bind (wpAny_pure (wpAny_pure ⟨_,rfl,wpAny_pure h⟩))
  | exact wpAny_pure ⟨_,rfl,wpAny_pure h⟩
  | exact wpAny_bind (wpAny_pure ⟨_,rfl,wpAny_pure h⟩)
end
end HT
namespace L2
open PySem PySem.Spec PyProof.Rows
section
variable {X:Cx}
def rCatU:R2:=λx y H Q=>∃a b xs ys,x=.ref a∧y=.ref b∧H a=some (.tup xs)∧H b=some (.tup ys)∧xs.length+ys.length≤sizeLine∧∀p H',ao H H'→H' p=some (.tup (xs++ys))→Q (.ref p) H'
theorem xh:OpR X (binaryOp .Add) rCatU:=by
 intro pins s σ H x y v u Q I rx ry h;obtain ⟨a,b,xs,ys,rfl,rfl,ha,hb,hz,q⟩:=h;by_cases hx:xs=[]
 ·subst hx;cases rx
  cases ry
  obtain ⟨its,r1,p1,_⟩:=I.tuple (SqT.of ha);obtain ⟨its2,r2,p2,_⟩:=I.tuple (SqT.of hb);exact HT.Kk p1 p2 (r1.og.mpr rfl) ⟨.ref b,H,I,rfl,q b H (ao.refl H) hb⟩
 ·refine Mh pins s σ H _ _ v u Q I rx ry ⟨a,b,xs,ys,rfl,rfl,SqT.of ha,SqT.of hb,hx,hz,λe=>?_,λ_ p hp=>q p _ (λc o h=>by rw[ai (aq h hp)];exact h) aa⟩;subst e;exact q a H (ao.refl H) (by rw[aaq];exact ha)
theorem qi {H:Hp} {a b:Addr} {xs ys:List V} {Q:VK} (ha:H a=some (.tup xs)) (hb:H b=some (.tup ys)) (hz:xs.length+ys.length≤sizeLine) (q:∀p H',ao H H'→H' p=some (.tup (xs++ys))→Q (.ref p) H'):rCatU (.ref a) (.ref b) H Q:=⟨a,b,xs,ys,rfl,rfl,ha,hb,hz,q⟩
def rSlU:V→Option Int→Option Int→Hp→VK→Prop:=λx lo hi H Q=>∃a xs,x=.ref a∧H a=some (.tup xs)∧∀p H',ao H H'→H' p=some (.tup (ck xs lo hi))→Q (.ref p) H'
theorem Ks {xs:List V} {lo hi:Option Int} (h:HT.sIx xs.length 0 lo=0∧HT.sIx xs.length xs.length hi=xs.length):ck xs lo hi=xs:=by
 unfold ck;rw[h.1,h.2,List.drop_zero,Nat.sub_zero,aat]
theorem Ms:SlR X rSlU:=by
 intro pins s σ H x v vl vu lo hi sl Q I rx hs pl pu h;obtain ⟨a,xs,rfl,ha,q⟩:=h;by_cases hw:HT.sIx xs.length 0 lo=0∧HT.sIx xs.length xs.length hi=xs.length
 ·cases rx
  obtain ⟨its,r,ht,hz⟩:=I.tuple (SqT.of ha);have hlen:its.toArray.size=xs.length:=by rw[aae];exact r.length.symm
  exact ⟨"tuple",_,PyProof.Rows.slot_tuple_getitem.lookup,ht.typeIs,HT.jv ht hs pl pu (by rw[hlen];exact hw) ⟨.ref a,H,I,rfl,q a H (ao.refl H) (by rw[Ks hw];exact ha)⟩ (by rw[hlen];exact hz)⟩
 ·exact sl_tup pins s σ H _ v vl vu lo hi sl Q I rx hs pl pu ⟨a,xs,rfl,SqT.of ha,hw,λp hp=>q p _ (λc o h=>by rw[ai (aq h hp)];exact h) aa⟩
theorem L6 {H:Hp} {a:Addr} {xs:List V} {lo hi:Option Int} {Q:VK} (ha:H a=some (.tup xs)) (q:∀p H',ao H H'→H' p=some (.tup (ck xs lo hi))→Q (.ref p) H'):rSlU (.ref a) lo hi H Q:=⟨a,xs,rfl,ha,q⟩
end
section
variable {X:Cx} {k:Nat} {ps:List Str} {sp:Sp} {x:Str} {p pos:Pos} {e:Expr} {es:List Expr} {t:TA}
def FnV (P:Program) (w:World) (K:PySem.W.Frag) (mg:Str→Option Value) (base:Heap) (k:Nat) (ps:List Str) (sp:Sp) (v:V):Prop:=
 ∃(f:Addr) (fd:FuncData),v=.ref f∧h9 P w K mg base CX0 k f fd ps sp∧Binds K fd ps []∧PySem.W.keepIn K (.ref f)=true
def tCallV (P:Program) (w:World) (K:PySem.W.Frag) (mg:Str→Option Value) (base:Heap) (k:Nat) (ps:List Str) (i:Nat) (t:TA):TE:=λσ H Q=>∃v sp,σ[i]?=some (some v)∧FnV P w K mg base k ps sp v∧t σ H λvs H1=>sp vs H1 Q E0
end
noncomputable def Itv (K:PySem.W.Frag) (a:Addr) (n:Nat):It:=
 ⟨λi H=>i < n∧∃xs,SqL K H a xs∧xs.length=n,λi H x H'=>H'=H∧∀xs,SqL K H a xs→xs[n - 1 - i]?=some x,λi H=>i=n⟩
def iRev (K:PySem.W.Frag) (ta:TA):TI:=λσ H R=>ta σ H λvs H1=>∃a xs,vs=[.ref a]∧SqL K H1 a xs∧R (Itv K a xs.length) H1
section
variable {CX:CXT} {P:Program} {w:World} {K:PySem.W.Frag} {mg:Str→Option Value} {base:Heap} {N:List Str} {qual:Str} {scope:Scope} {f:Addr} {cd:Value} {A:Around} {outer:List Env} {s:Shared} {H:Hp} {E:XK}
theorem cxOf_P:(kq CX P w K mg base N qual scope f cd A outer s H E).prog=P:=rfl
theorem cxOf_w:(kq CX P w K mg base N qual scope f cd A outer s H E).w=w:=rfl
theorem Ly:(kq CX P w K mg base N qual scope f cd A outer s H E).mg=mg:=rfl
theorem cxOf_b:(kq CX P w K mg base N qual scope f cd A outer s H E).base=base:=rfl
end
def rDGet2:V→List V→Hp→VK→Prop:=λx xs H Q=>∃a y z o,x=.ref a∧xs=[y,z]∧jw H a y o∧Q (o.getD z) H
section
variable {X:Cx}
theorem Hb (hu:X.A.units+1 < cLine):MtR X "dict.get" rDGet2:=by
 intro pins s σ H x xs v us Q I rx r h;obtain ⟨a,y,z,o,rfl,rfl,g,q⟩:=h;cases (show v=Value.ref a from rx)
 cases r with
 | cons ry rr=>
  cases rr with
  | cons rz rr=>
   cases rr
   rename_i u1 u2
   rcases g with ⟨kvs,k,e,ey,l⟩ | ⟨kvs,k,b,e,ey,eb,l⟩
   ·subst ey;obtain ⟨_,hd,vs,rel,dd⟩:=uq I.hok e;refine call_meetsIn PySem.F.slot_dict_get dd.typeIs PySem.F.entry_dict_get (PySem.F.args_dict_get_3 _ _ _) (meets_dict_get_default (bu X.prog X.w) a (j8 ry) hd u2) ⟨_,dd.mapOf,⟨_,H,I.tok _,?_,q⟩⟩;rw[l];exact dq.getD (rel.val k) rz
   ·subst ey;cases (show u1=Value.ref b from ry)
    obtain ⟨_,hd,xs,rel,dd⟩:=ua I.hok e;have rv:=rel.val k;rw[←l] at rv;refine wpAny_call_entry PySem.F.slot_dict_get dd.typeIs PySem.F.entry_dict_get ?_ (PySem.F.args_dict_get_3 _ _ _);show wpAny _ _ (dictGet a (.ref b) >>=_) _ _ s
    refine wpAny_bind (wpAny_dictGet_heap (tupleKind_room_in1 hu) (oo I.hok eb) dd ?_);have g:=dq.getD rv rz;cases hf:atKey xs k with
    | some p=>
     rw[hf] at g;exact wpAny_pure ⟨p.2,rfl,⟨_,H,I.tok _,g,q⟩⟩
    | none=>
     rw[hf] at g;show wpAny _ _ (Builtin.Dict.missed a (.ref b) >>=_) _ _ _
     exact wpAny_bind (wpAny_missed_other hd (wpAny_pure ⟨u2,rfl,⟨_,H,I.tok _,g,q⟩⟩))
end
theorem Inv.Dx {X:Cx} {pins:List (Addr×Obj)} {σ:St} {H:Hp} {s:Shared} {h':Heap} {t':Nat} {fp:List Addr} (I:Inv X pins σ H s) (k:∀b o,b∉fp→s.heap.get? b=some o→h'.get? b=some o) (hf:∀b∈fp,m9 X pins H b):Inv X pins σ H { s with heap:=h',toks:=t' }:=by
 have nfp:∀b u,H b=some u→b∉fp:=λb u e z=>by rw[(hf b z).1] at e;cases e
 refine I.step (g':=s.gens) (d':=s.drawn) (ch:=fp) (λb hb=>?_) (λb o _ _ hc e _=>k b o hc e) (λb o _ _ hc e _=>⟨o.slots,k b o hc e⟩) (λ_ _ _ _ n=>n)
  (λb o hc e=>⟨o,k b o hc e⟩) (λ_ _ e=>e) (λ_ _ _ e=>e) (λb ps e=>⟨#[],by rw[e];simp⟩) (λm hm=>?_) (λb u e=>?_) I.bare
 ·obtain ⟨f0,f1,f2,f3,f4,f5⟩:=hf b hb;exact ⟨f3,f1,f4,f5⟩
 ·exact hm.at λo e=>k _ o (λz=>(hf _ z).2.1 rfl) e
 ·exact (I.hok b u e).rq (λc v hc q=>k c v (by
   rcases hc with rfl | hc
   ·exact nfp _ u e
   ·exact nfp _ _ hc) q) (λ_ q=>q) λ_ _ q=>q
noncomputable def Ite (K:PySem.W.Frag) (a:Addr):It:=
 ⟨λi H=>∃xs x,SqL K H a xs∧xs[i]?=some x,λi H x H'=>∃p y,(∀xs,SqL K H a xs→xs[i]?=some y)∧H p=none∧x=.ref p∧H'=upd H p (.tup [.int (i:Nat),y]),λi H=>∃xs,SqL K H a xs∧xs.length≤i⟩
theorem Gm {P:Program} {w:World} {K:PySem.W.Frag} {elts:List Expr} {x1} {tpos:Pos} (a it e:Addr) (hne:e≠it):Turn P w K (.Tuple elts x1 tpos) (Ite K a) [e,it] e (λi h=>(∃old,IsEnum h e it ((i:Nat):Int) old)∧h.IsListIter it a i) where
 mem:=by simp
 obj:=λi h st b hb=>by
  obtain ⟨⟨old,he⟩,o',e',c',d'⟩:=st;rcases List.mem_cons.mp hb with z | z
  ·subst z;exact ⟨_,he,λv z=>by cases z⟩
  ·have z:=List.mem_singleton.mp z;subst z;exact ⟨o',e',λv z=>by rw[d'] at z;cases z⟩
 keep:=λi h h' st k=>⟨by
  obtain ⟨old,he⟩:=st.1;exact ⟨old,k e (by simp) _ he⟩,st.2.at λo' e'=>k it (by simp) o' e'⟩
 item:=by
  intro X hP hw hK hc i pins s σ H E I hf st hg;subst hP hw hK;obtain ⟨xs,x,hq,hx⟩:=hg;obtain ⟨⟨old,he⟩,st2⟩:=st;obtain ⟨its,rv,p,hz⟩:=I.list hq;obtain ⟨u,hu,ru⟩:=rv.get hx;have le:e < s.heap.objs.size:=Heap.lt_size he;have li:it < s.heap.objs.size:=by
   obtain ⟨o',e',_⟩:=st2;exact Heap.lt_size e'
  refine wpAny_pyNext_enum_item he st2 p.isList (x:=u) (by simpa using hu) hne λh1 heo hit1 ht1 hz1 hk1=>⟨_,rfl,?_⟩;refine wpAny_letOwnedTupleGo_enum heo λh2 he2 sb=>?_;have sb:Heap.SameBut e h1 h2:=sb;have hfr:H s.heap.objs.size=none:=I.hok.fresh (aa3 _);have I1:Inv X pins σ (upd H s.heap.objs.size (.tup [.int (i:Nat),x])) { s with heap:=s.heap.push { cls:=.type "tuple",data:=.seq #[.int i s.toks,u] },toks:=s.toks+1 }:=
   I.laid (λb o' e'=>Heap.get?_push_of_some _ e') (aa3 _) (show b4 X.prog X.w _ _ _ (.tup [.int (i:Nat),x]) from ⟨by show (2:Nat)≤sizeLine;decide,[.int i s.toks,u],.cons ⟨_,rfl⟩ (.cons ru .nil),⟨_,Heap.get?_push_size _ rfl,rfl,_,rfl,rfl⟩⟩)
  have nup:∀b,b < s.heap.objs.size→(upd H s.heap.objs.size (.tup [.int (i:Nat),x])) b=H b:=λb hb=>ai (aas hb);have fpl:∀b∈[e,it],b < s.heap.objs.size:=λb hb=>by
   rcases List.mem_cons.mp hb with z | z
   ·rw[z];exact le
   ·rw[List.mem_singleton.mp z];exact li
  have I2:=Inv.Dx (h':=h2) (t':=s.toks+1) (fp:=[e,it]) I1 (λb o' hb e'=>by
   have be:b≠e:=λz=>hb (by simp[z]);have bi:b≠it:=λz=>hb (by simp[z]);have e':(s.heap.push { cls:=.type "tuple",data:=.seq #[.int i s.toks,u] }).get? b=some o':=e';by_cases hbs:b=s.heap.objs.size
   ·subst hbs;rw[Heap.get?_push_size _ rfl] at e';cases e'
    exact (sb.2 _ be).trans ht1
   ·rw[Heap.get?_push_ne _ _ _ hbs] at e';exact (sb.2 _ be).trans (hk1 b o' be bi e')) λb hb=>by
   obtain ⟨f0,f⟩:=hf b hb;exact ⟨by rw[nup b (fpl b hb)];exact f0,f⟩
  have ei:(((i+1:Nat):Int))=(i:Int)+1:=by omega
  refine ⟨.ref s.heap.objs.size,_,I2,rfl,⟨_,x,λys hy=>by rw[I.qj hy hq];exact hx,hfr,rfl,rfl⟩,⟨⟨u,?_⟩,hit1.at λo' e'=>(sb.2 _ hne.symm).trans e'⟩,λb hb=>by rw[nup b (fpl b hb)];exact (hf b hb).1⟩;rw[ei];exact he2
 done:=by
  intro X hP hw hK hc i pins s σ H E I hf st hg;subst hP hw hK;obtain ⟨xs,hq,hx⟩:=hg;obtain ⟨⟨old,he⟩,st2⟩:=st;obtain ⟨its,rv,p,hz⟩:=I.list hq;have hl:=rv.length;obtain ⟨f0,f1,f2,f3,f4,f5⟩:=hf it (by simp);exact wpAny_pyNext_enum_end (I.ok.hd hc) he st2 p.isList (by simp;omega) λh' eb=>⟨rfl,I.turned (t':=s.toks) (λb o' hb e'=>eb b o' hb e') f0 f1 f3 f4 f5⟩
 self:=λ_ _ _ _ _ st h=>by
  obtain ⟨⟨old,he⟩,_⟩:=st;exact wpAny_pyIter_enum he h
def iEnum (K:PySem.W.Frag) (ta:TA):TI:=λσ H R=>ta σ H λvs H1=>∃a xs,vs=[.ref a]∧SqL K H1 a xs∧R (Ite K a) H1
theorem nk:bootBuiltins "enumerate"=some (.type "enumerate"):=by decide+kernel
section
variable {X:Cx}
theorem K1 {a:Expr} {ta:TA} {p pos tpos:Pos} {elts:List Expr} {x1} (hg:Gl X "enumerate") (hm:X.mg "enumerate"=none) (ha:PA X [a] ta) (hs:starEach [a] X.env=[(false,eval a X.env)]:=by rfl):PI X (.Tuple elts x1 tpos) (.Call (.Name "enumerate" p) [a] [] pos) (iEnum X.K ta):=by
 intro pins s σ H R I h;refine Call_ (kx I hg hm nk (PyProof.Rows.callWith_type1 (thn (ha pos pins s σ H _ I h) λus s1 ⟨vs,H1,I1,r1,q1⟩=>?_) hs rfl));obtain ⟨l,xs,e,hq,q⟩:=q1;subst e;cases r1 with
 | cons r rr=>
  cases rr
  cases (show _=Value.ref l from r)
  obtain ⟨its,rv,pl,hz⟩:=I1.list hq;refine call_enumerate_list pl.isList λh' he hit hsz hk=>?_;refine wpAny_pyIter_enum he ?_;have I2:Inv X pins σ H1 { s1 with heap:=h' }:=I1.kept (t':=s1.toks) hk;refine ⟨s1.heap.objs.size+1,[s1.heap.objs.size+1,s1.heap.objs.size],_,_,H1,rfl,I2,Gm l _ _ (aec _),⟨⟨_,he⟩,hit⟩,λb hb=>?_,q⟩;rcases List.mem_cons.mp hb with z | z
  ·subst z;exact I1.si (ac2 _) (I1.hok.fresh (ac2 _))
  ·rw[List.mem_singleton.mp z];exact I1.si (aa3 _) (I1.hok.fresh (aa3 _))
end
theorem Fm {K:PySem.W.Frag} {a:Addr} {xs:List V} {g:TG} {tb:TS} {D:Ends} {σ:St} {H:Hp} (Pv:Nat→St→Hp→Prop) (h0:Pv 0 σ H) (hl:∀i σ H,i≤xs.length→Pv i σ H→SqL K H a xs)
  (hs:∀i x σ H p,xs[i]?=some x→Pv i σ H→H p=none→g (.ref p) σ (upd H p (.tup [.int (i:Nat),x])) λσ2 H2=>tb { D with nx:=Pv (i+1),ct:=Pv (i+1),bk:=D.nx } σ2 H2) (hd:∀σ H,Pv xs.length σ H→D.nx σ H):ForW g tb D (Ite K a) σ H:=by
 refine ⟨λi m σ H=>m=xs.length - i∧i≤xs.length∧Pv i σ H,⟨xs.length,by simp,ab7 _,h0⟩,?_⟩;rintro i m σ H ⟨rfl,hi,p⟩;have q:=hl i σ H hi p;by_cases hlt:i < xs.length
 ·refine .inr ⟨⟨xs,_,q,aa5 hlt⟩,Pv (i+1),λσ' H' p'=>⟨xs.length - (i+1),by omega,rfl,hlt,p'⟩,λx H' y=>?_⟩;obtain ⟨t,v,hv,hn,rfl,rfl⟩:=y;exact hs i v σ H t (hv xs q) p hn
 ·have e:i=xs.length:=by omega
  subst e;exact .inl ⟨⟨xs,q,aa3 _⟩,hd σ H p⟩
end L2
namespace L2.Srt
open PySem PySem.W PyProof.Rows PySem.Spec
end L2.Srt
namespace L2
open PySem PySem.Spec PyProof.Rows Srt
section
variable {X:Cx}
theorem Et:∀{vs:List Value} {ns:List Int},Vals (ns.map V.int) vs→IntsAre vs ns
 | [],[],_=>.nil
 | v::vs,n::ns,.cons r t=>by
  obtain ⟨k,rfl⟩:=r;exact .cons _ _ (Et t)
end
end L2
namespace PySem
open Sem (wp)
open AutoSeq1 (wpAny_loadPart')
theorem Jo (a v:Value):checkTypeCall "enumerate" ⟨[a],[("start",v)]⟩=pure ():=by kernel_rfl
theorem Ml (a v:Value):checkBuiltinCall "enumerate.__new__" ⟨[.type "enumerate",a],[("start",v)]⟩=pure ():=by kernel_rfl
theorem Kh (a b v:Value):argsOk "object.__init__" ⟨[a,b],[("start",v)]⟩:=by
 unfold argsOk;rw[signature?_of (id:="object.__init__") (n:="__tini__".toList) (o:="tcejbo".toList) (by kernel_rfl) F.owner_object];kernel_rfl
noncomputable def d9 (l:Addr):Obj:={ cls:=.type "list_iterator",data:=.fields #[.ref l,.int 0 0] }
noncomputable def nj (it:Addr):Obj:={ cls:=.type "enumerate",data:=.fields #[.none,.bool false,.ref it,rawInt 1,.none,.none] }
theorem Ft (l:Addr) (items:Array Value) (n:Nat) (t:Tok) (dct:Option Addr) (sl:Array (Option Value)):
  Meets (Builtin.«enumerate.__new__» ⟨[.type "enumerate",.ref l],[("start",.int 1 t)]⟩) (λ_ R s=>s.heap.get? l=some { cls:=.type "list",dict:=dct,data:=.seq items n,slots:=sl }∧
   R (.ok (.ret (.ref (s.heap.push (d9 l)).objs.size))) { s with heap:=(s.heap.push (d9 l)).push (nj s.heap.objs.size) }):=
 .of_wp λprog w A R s h=>by
  obtain ⟨hp,g,d,tk,os⟩:=s;obtain ⟨hl,h⟩:=h;have hsb:=sub_enumerate;have hLs:Heap.IsList (Shared.heap ⟨hp,g,d,tk,os⟩) l items:=⟨_,hl,rfl,n,rfl⟩;wp_walk using wpAny_loadPart' hl
  refine wpAny_stack_any λst=>wpAny_pure ?_;split
  ·next c _ _ _ _ _=>
   cases (c==Value.type "enumerate") <;> (wp_walk using wpAny_loadPart' hl,wpAny_pyIter_list hLs;exact ⟨_,rfl,h⟩)
  ·wp_walk using wpAny_loadPart' hl,wpAny_pyIter_list hLs
   exact ⟨_,rfl,h⟩
theorem Bj {T newId:String} {self a v:Value} (hl:typeLookup (.type T) "__init__"=pure (some (.builtin "object.__init__"))) (hm:Bind.madeBy (.type T)=pure (some newId)) (hne:(some newId !=some "object.__new__")=true):
  Meets (Builtin.«object.__init__» ⟨[self,a],[("start",v)]⟩) (λ_ R s=>s.TypeIs self T∧R (.ok (.ret .none)) s):=by
 refine Meets.of_wp λprog w A R s ⟨hT,hq⟩=>?_;repeat (any_goals (first | assumption | wp_step))
 exact ⟨_,rfl,hq⟩
section
variable {prog:Program} {w:World} {A:Around} {E:Value→Shared→Prop} {s:Shared}
theorem Hs {l:Addr} {t:Tok} {items:Array Value} {Q:Value→Shared→Prop} (hL:s.heap.IsList l items)
  (h:Q (.ref (s.heap.push (d9 l)).objs.size) { s with heap:=(s.heap.push (d9 l)).push (nj s.heap.objs.size) }):
  wpAny (model prog w) A (call (.type "enumerate") [.ref l] [("start",.int 1 t)]) Q E s:=by
 have ft:=F.called_enumerate;obtain ⟨c0,tl,hmro⟩:=ft.mro;have hmade:=ft.made;have hsub:=ft.sub;have hct:=Jo (.ref l) (.int 1 t);obtain ⟨⟨c,dct,dt,sl⟩,hl,hc,n,hd⟩:=hL;replace hc:c=.type "list":=hc
 replace hd:dt=.seq items n:=hd
 subst hc hd;refine wpAny_call (codeAny_of_tree (show wpAny _ _ (callAny (.type "enumerate") _) _ _ _ from ?_));refine wpAny_pure ⟨Code.quiet_builtin _ (by decide+kernel),codeAny_builtin F.entry_type_call ?_⟩;rw[Around.under_plain (weight_type_call_type "enumerate" [.ref l] [("start",.int 1 t)]) (units_type_call_type _ _ _)];have h1:=ft.notType;have h2:=ft.canCreate;repeat (any_goals (first | assumption | wp_step))
 have hen:(nj s.heap.objs.size).cls=.type "enumerate":=rfl;have hT:({ s with heap:=(s.heap.push (d9 l)).push (nj s.heap.objs.size) }:Shared).TypeIs (.ref (s.heap.push (d9 l)).objs.size) "enumerate":=⟨_,Heap.get?_push_size _ rfl,rfl⟩;refine codeAny_mono (R:=wants (λv s1=>v=.ref (s.heap.push (d9 l)).objs.size∧s1={ s with heap:=(s.heap.push (d9 l)).push (nj s.heap.objs.size) }) E) (codeAny_call_builtin ft.plain F.entry_enumerate_new (wpAny_of_eq (Ml (.ref l) (.int 1 t)) (Ft l items n t dct sl prog w A.in1 _ s ⟨hl,rfl,rfl⟩))) λr s1 hr=>?_;match r,hr with
 | .error e,hr=>exact hr
 | .ok (.ret obj),hr=>
  obtain ⟨rfl,rfl⟩:=hr;have hli:=ft.init.lookup;have hbi:=ft.init.bind (.ref (s.heap.push (d9 l)).objs.size);repeat (any_goals (first | assumption | wp_step))
  have gi:=Bj (T:="enumerate") (self:=.ref (s.heap.push (d9 l)).objs.size) (a:=.ref l) (v:=.int 1 t) ft.init.lookup ft.made (by decide);refine codeAny_mono (codeAny_call_builtin ft.init.plain F.entry_object_init (ft.init.check _ _ _ _ _ _ _ _ hT (Kh _ _ _) (gi prog w A.in1 (wants (λr s2=>r=.none∧Q (.ref (s.heap.push (d9 l)).objs.size) s2) E) _ ⟨hT,rfl,h⟩))) λr2 s2 hr2=>?_;match r2,hr2 with
  | .error e,hr2=>exact hr2
  | .ok (.ret r),hr2=>
   obtain ⟨rfl,hq⟩:=hr2;repeat (any_goals (first | assumption | wp_step))
end
end PySem
namespace L2
open PySem PySem.Spec PyProof.Rows
theorem draws1 {prog:Program} {w:World} {A:Around} (hh:A.handled=none) (it l:Addr) (hne:l≠it) (items:Array Value):
  Draws prog w A it [it,l] (items.size+1) (λi v=>∃j,i=j+1∧items[j]?=some v) (λi h=>∃j,i=j+1∧h.IsListIter it l j∧h.IsList l items) where
 live:=λ_ _ ⟨_,_,⟨o,ho,_⟩,_⟩=>⟨o,ho⟩
 frame:=λ_ _ _ ⟨j,e,a,b⟩ hk=>⟨j,e,a.at λo e=>hk it aa6 o e,b.at λo e=>hk l (aab _ aa6) o e⟩
 item:=by
  rintro i s Q E hi ⟨j,rfl,a,b⟩ hQ;have hj:j < items.size:=Nat.lt_of_succ_lt_succ hi;exact wpAny_nextOf_list_item a b (ac1 hj) λh' a' hs=>hQ _ h' s.toks ⟨j,rfl,ac1 hj⟩ ⟨j+1,rfl,a',b.extBut hs.extBut hne⟩ hs
 done:=by
  rintro s Q E ⟨j,e,a,b⟩ hE;obtain rfl:j=items.size:=(adf e).symm;exact wpAny_nextOf_list_end hh a b (Array.getElem?_eq_none (aa3 _)) hE
noncomputable def Ite1 (K:PySem.W.Frag) (a:Addr):It:=
 ⟨λi H=>∃xs x,SqL K H a xs∧xs[i]?=some x,λi H x H'=>∃p y,(∀xs,SqL K H a xs→xs[i]?=some y)∧H p=none∧x=.ref p∧H'=upd H p (.tup [.int ((i+1:Nat):Int),y]),λi H=>∃xs,SqL K H a xs∧xs.length≤i⟩
theorem Ca {P:Program} {w:World} {K:PySem.W.Frag} {elts:List Expr} {x1} {tpos:Pos} (a it e:Addr) (hne:e≠it) (hea:e≠a) (hai:a≠it):Turn P w K (.Tuple elts x1 tpos) (Ite1 K a) [e,it] e (λi h=>(∃old,IsEnum h e it ((i+1:Nat):Int) old)∧h.IsListIter it a i) where
 mem:=by simp
 obj:=λi h st b hb=>by
  obtain ⟨⟨old,he⟩,o',e',c',d'⟩:=st;rcases List.mem_cons.mp hb with rfl | z
  ·exact ⟨_,he,λv z=>by cases z⟩
  ·cases List.mem_singleton.mp z
   exact ⟨o',e',λv z=>by rw[d'] at z;cases z⟩
 keep:=λi h h' ⟨⟨old,he⟩,st2⟩ k=>⟨⟨old,k e (by simp) _ he⟩,st2.at λo' e'=>k it (by simp) o' e'⟩
 item:=by
  intro X hP hw hK hc i pins s σ H E I hf st hg;subst hP hw hK;obtain ⟨xs,x,hq,hx⟩:=hg;obtain ⟨⟨old,he⟩,st2⟩:=st;obtain ⟨its,rv,p,hz⟩:=I.list hq;obtain ⟨u,hu,ru⟩:=rv.get hx;have le:e < s.heap.objs.size:=Heap.lt_size he;have li:it < s.heap.objs.size:=let ⟨_,e',_⟩:=st2;Heap.lt_size e'
  have hil:i < its.toArray.size:=by
   have:=(List.getElem?_eq_some_iff.mp hu).1;simpa using this
  refine wpAny_pyNext_enum_itemD (draws1 (A:=X.A.in1) (I.ok.hd hc) it a hai its.toArray) he ⟨i,rfl,st2,p.isList⟩ (Nat.succ_lt_succ hil) hne (λz=>by
   rcases List.mem_cons.mp z with z | z
   ·exact hne z
   ·exact hea (List.mem_singleton.mp z)) λu' h1 tk hP heo hst1 ht1 hz1 hk1=>⟨_,rfl,?_⟩
  obtain ⟨j,ej,hu'⟩:=hP;cases adf ej
  obtain rfl:u'=u:=by
   have:its.toArray[i]?=some u:=by simpa using hu
   exact aac (hu'.symm.trans this)
  obtain ⟨j,ej,hit1,_⟩:=hst1;cases adf ej
  refine wpAny_letOwnedTupleGo_enum heo λh2 he2 sb=>?_;have sb:Heap.SameBut e h1 h2:=sb;have hfr:H s.heap.objs.size=none:=I.hok.fresh (aa3 _);have I1:Inv X pins σ (upd H s.heap.objs.size (.tup [.int ((i+1:Nat):Int),x])) { s with heap:=s.heap.push { cls:=.type "tuple",data:=.seq #[.int ((i+1:Nat):Int) tk,u'] },toks:=tk+1 }:=
   I.laid (t':=tk+1) (λb o' e'=>Heap.get?_push_of_some _ e') (aa3 _) (show b4 X.prog X.w _ _ _ (.tup [.int ((i+1:Nat):Int),x]) from ⟨by show (2:Nat)≤sizeLine;decide,[.int ((i+1:Nat):Int) tk,u'],.cons ⟨_,rfl⟩ (.cons ru .nil),⟨_,Heap.get?_push_size _ rfl,rfl,_,rfl,rfl⟩⟩)
  have nup:∀b,b < s.heap.objs.size→(upd H s.heap.objs.size (.tup [.int ((i+1:Nat):Int),x])) b=H b:=λb hb=>ai (aas hb);have fpl:∀b∈[e,it],b < s.heap.objs.size:=λb hb=>(List.mem_cons.mp hb).elim (λz=>z ▸ le) λz=>by rw[List.mem_singleton.mp z];exact li
  have I2:=Inv.Dx (h':=h2) (t':=tk+1) (fp:=[e,it]) I1 (λb o' hb e'=>by
   have be:b≠e:=λz=>hb (by rw[z];exact aa6);have bi:b≠it:=λz=>hb (by rw[z];exact aab _ aa6);have e':(s.heap.push { cls:=.type "tuple",data:=.seq #[.int ((i+1:Nat):Int) tk,u'] }).get? b=some o':=e';by_cases hbs:b=s.heap.objs.size
   ·subst hbs;rw[Heap.get?_push_size _ rfl] at e';cases e'
    exact (sb.2 _ be).trans ht1
   ·rw[Heap.get?_push_ne _ _ _ hbs] at e';exact (sb.2 _ be).trans (hk1 b o' be bi e')) λb hb=>by
   obtain ⟨f0,f⟩:=hf b hb;exact ⟨(nup b (fpl b hb)).trans f0,f⟩
  exact ⟨.ref s.heap.objs.size,_,I2,rfl,⟨_,x,λys hy=>by rw[I.qj hy hq];exact hx,hfr,rfl,rfl⟩,⟨⟨u',he2⟩,hit1.at λo' e'=>(sb.2 _ hne.symm).trans e'⟩,λb hb=>(nup b (fpl b hb)).trans (hf b hb).1⟩
 done:=by
  intro X hP hw hK hc i pins s σ H E I hf st hg;subst hP hw hK;obtain ⟨xs,hq,hx⟩:=hg;obtain ⟨⟨old,he⟩,st2⟩:=st;obtain ⟨its,rv,p,hz⟩:=I.list hq;have hl:=rv.length;obtain ⟨f0,f1,f2,f3,f4,f5⟩:=hf it (by simp);have hT:s.TypeIs (.ref e) "enumerate":=⟨_,he,rfl⟩;have hnone:its.toArray[i]?=none:=by simp;omega
  unfold pyNext;refine wpAny_bind (wpAny_attempt (wpAny_callSpecial?_slot (name:=Str.ofString "__next__") hT F.slot_enumerate_next (wpAny_call_entry F.slot_enumerate_next hT F.entry_enumerate_next ?_ (F.args_enumerate_next_1 _))));show wpAny _ _ (field (.ref e) 2 >>=_) _ _ _
  refine wpAny_bind (wpAny_field he rfl (x:=.ref it) rfl (wpAny_bind (wpAny_nextOf_list_end (I.ok.hd hc) st2 p.isList hnone λh' x eb ⟨o,ho,hc'⟩=>wpAny_bind (wpAny_isInstance (T:="StopIteration") (b:=true) ⟨o,ho,hc'⟩ isSubtype_stop ?_))));exact wpAny_pure ⟨rfl,I.turned (t':=s.toks) (λb o' hb e'=>eb b o' hb e') f0 f1 f3 f4 f5⟩
 self:=λ_ _ _ _ _ st h=>by
  obtain ⟨⟨old,he⟩,_⟩:=st;exact wpAny_pyIter_enum he h
def Hn (K:PySem.W.Frag) (ta:TA):TI:=λσ H R=>ta σ H λvs H1=>∃a xs,vs=[.ref a]∧SqL K H1 a xs∧R (Ite1 K a) H1
theorem Av {K:PySem.W.Frag} {a:Addr} {xs:List V} {g:TG} {tb:TS} {D:Ends} {σ:St} {H:Hp} (Pv:Nat→St→Hp→Prop) (h0:Pv 0 σ H) (hl:∀i σ H,i≤xs.length→Pv i σ H→SqL K H a xs)
  (hs:∀i x σ H p,xs[i]?=some x→Pv i σ H→H p=none→g (.ref p) σ (upd H p (.tup [.int ((i+1:Nat):Int),x])) λσ2 H2=>tb { D with nx:=Pv (i+1),ct:=Pv (i+1),bk:=D.nx } σ2 H2) (hd:∀σ H,Pv xs.length σ H→D.nx σ H):ForW g tb D (Ite1 K a) σ H:=by
 refine ⟨λi m σ H=>m=xs.length - i∧i≤xs.length∧Pv i σ H,⟨xs.length,by simp,ab7 _,h0⟩,?_⟩;rintro i m σ H ⟨rfl,hi,p⟩;have q:=hl i σ H hi p;by_cases hlt:i < xs.length
 ·refine .inr ⟨⟨xs,_,q,aa5 hlt⟩,Pv (i+1),λσ' H' p'=>⟨xs.length - (i+1),by omega,rfl,hlt,p'⟩,λx H' y=>?_⟩;obtain ⟨t,v,hv,hn,rfl,rfl⟩:=y;exact hs i v σ H t (hv xs q) p hn
 ·obtain rfl:i=xs.length:=by omega
  exact .inl ⟨⟨xs,q,aa3 _⟩,hd σ H p⟩
section
variable {X:Cx}
theorem xn {M:Model} {A:Around} {E:Value→Shared→Prop} {s:Shared} {env:Env} {pos:Pos} {T:String} {e:Expr} {kws:List Keyword} {Q:Value→Shared→Prop}
  (h:wpAny M A (spliced (backTo pos (starEach [e] env))) (λvs s1=>wpAny M A (evalAll ((backToKw pos (keywordEach kws env)).map (·.2))) (λkvs s2=>wpAny M A (call (.type T) vs (((backToKw pos (keywordEach kws env)).filterMap (·.1)).zip kvs)) Q E s2) E s1) E s)
  (he:backTo pos (starEach [e] env)=(false,eval e env)::backTo pos (starEach [] env)) (hp:(backTo pos (starEach [e] env)).any (·.1)=false)
  (hall:(backToKw pos (keywordEach kws env)).all (·.1.isSome)=true) (hkw:(backToKw pos (keywordEach kws env)).any (·.1.isNone)=false):
  wpAny M A (callWith pos (.type T) [] (backTo pos (starEach [e] env)) (backToKw pos (keywordEach kws env))) Q E s:=by
 unfold callWith;refine wpAny_bind (wpAny_holding (wpAny_mono (Q:=λa s1=>wpAny M A (call (.type T) a.pos a.kw) Q E s1) ?_ (λa s1 h1=>wpAny_bind (wpAny_standAt ?_)) λ_ _ x=>x))
 ·rw[he] at h ⊢;exact evalArgs_kwB hall h
 ·simp only[hp,hkw,adv];refine wpAny_bind (wpAny_pure ?_);exact wpAny_bind (wpAny_mono h1 (λr s2 hr=>wpAny_bind (wpAny_holding (wpAny_point (wpAny_pure hr)))) λ_ _ x=>x)
theorem Jp {a:Expr} {ta:TA} {p pos tpos cp kp:Pos} {elts:List Expr} {x1} {j} (hg:Gl X "enumerate") (hm:X.mg "enumerate"=none) (ha:PA X [a] ta) (hs:starEach [a] X.env=[(false,eval a X.env)]:=by rfl):PI X (.Tuple elts x1 tpos) (.Call (.Name "enumerate" p) [a] [⟨some "start",.Constant (.int 1) j cp,kp⟩] pos) (Hn X.K ta):=by
 intro pins s σ H R I h;refine wpAny_Call_Name_kw (kx I hg hm nk (xn (thn (ha pos pins s σ H _ I h) λus s1 ⟨vs,H1,I1,r1,q1⟩=>?_) (by rw[hs];rfl) (by rw[hs];rfl) rfl rfl));obtain ⟨l,xs,e,hq,q⟩:=q1;subst e;cases r1 with
 | cons r rr=>
  cases rr
  cases (show _=Value.ref l from r)
  refine kws_cons (wpAny_Constant_int (kws_nil ?_));have I1:=I1.tok (s1.toks+1);obtain ⟨its,rv,pl,hz⟩:=I1.list hq;refine Hs (t:=s1.toks) pl.isList ?_;have hz1:(s1.heap.push (d9 l)).objs.size=s1.heap.objs.size+1:=Heap.size_push ..;have he:IsEnum ((s1.heap.push (d9 l)).push (nj s1.heap.objs.size)) (s1.heap.objs.size+1) s1.heap.objs.size ((0+1:Nat):Int) .none:=by
   have:=Heap.get?_push_size (s1.heap.push (d9 l)) (o:=nj s1.heap.objs.size) rfl;rw[hz1] at this;exact this
  show wpAny _ _ (pyIter (.ref (s1.heap.push (d9 l)).objs.size)) _ _ _
  rw[hz1];refine wpAny_pyIter_enum he ?_;have I2:=I1.kept (h':=(s1.heap.push (d9 l)).push (nj s1.heap.objs.size)) (t':=s1.toks+1) λb o x=>Heap.get?_push_of_some _ (Heap.get?_push_of_some _ x);have ll:l < s1.heap.objs.size:=pl.lt;refine ⟨s1.heap.objs.size+1,[s1.heap.objs.size+1,s1.heap.objs.size],_,_,H1,rfl,I2,Ca l _ _ (aec _) (aby (ae6 ll)) (aas ll),⟨⟨_,he⟩,⟨_,Heap.get?_push_of_some _ (Heap.get?_push_size _ rfl),rfl,rfl⟩⟩,λb hb=>?_,q⟩;rcases List.mem_cons.mp hb with z | z
  ·subst z;exact I1.si (ac2 _) (I1.hok.fresh (ac2 _))
  ·rw[List.mem_singleton.mp z];exact I1.si (aa3 _) (I1.hok.fresh (aa3 _))
end
theorem Dd {lo:Int} {n:Nat} {fr:St} {tc:TT} {te:TE} {D:Addr} {H1:Hp} {Q:Hp→Prop} (P:Nat→List V→Hp→Prop) (hn:n < sizeLine) (h0:P 0 [] (upd H1 D (.lst [])))
  (step:∀(i:Nat) ys H (G:Hp→Prop) (K':V→Hp→Prop),i < n→P i ys H→ys.length≤i→H D=some (.lst ys)→(∀H3,H3 D=some (.lst ys)→P (i+1) ys H3→G H3)→(∀y H4,H4 D=some (.lst ys)→P (i+1) (ys++[y]) (upd H4 D (.lst (ys++[y])))→K' y H4)→tc ([some (.int (lo+i))]++fr) H λb H3=>if b=true then te ([some (.int (lo+i))]++fr) H3 K' else G H3)
  (done:∀ys H,P n ys H→ys.length≤n→H D=some (.lst ys)→Q H):LC 1 fr (iy 0) tc te (Itr lo n) D H1 Q:=by
 refine ⟨λi m H=>m=n - i∧i≤n∧∃ys,H D=some (.lst ys)∧P i ys H∧ys.length≤i,⟨n,by simp,ab7 _,[],aa,h0,aa3 _⟩,?_⟩;rintro i m H ⟨rfl,hi,ys,hys,hP,hl⟩;by_cases hlt:i < n
 ·refine .inr ⟨hlt,λτ x H' hτ hy=>?_⟩;obtain ⟨e1,e2⟩:=hy;subst e1 e2;obtain ⟨c,rfl⟩:∃c,τ=[c]:=List.length_eq_one_iff.mp hτ;refine ⟨⟨[some (.int (lo+i))],rfl,rfl⟩,step i ys H' _ _ hlt hP hl hys (λH3 q1 q2=>⟨n - (i+1),by omega,rfl,hlt,ys,q1,q2,abt hl⟩) λy H4 q1 q2=>⟨ys,q1,by omega,n - (i+1),by omega,rfl,hlt,ys++[y],aa,q2,?_⟩⟩;rw[aa4,abj];omega
 ·obtain rfl:i=n:=by omega
  exact .inl ⟨aa3 _,done ys H hP hl hys⟩
def CDivB (i j:Int):Prop:=0 < j∧j.natAbs.log2 < 9000
theorem Ai {X:Cx}:OpR X (binaryOp .FloorDiv) (rI CDivB λi j=>.int (i / j)):=opI λi j _ _ _ _ _ hc q=>by
 have h1:(0:Int) < j:=hc.1;exact floordiv_int (by omega) (by rw[ad5 i (by omega)];exact q) (.inl (PyProof.noPylong_of_log2 hc.2))
end L2
namespace Pc
open PySem PySem.Spec L2 PyProof.Rows
def wdW:V→Prop
 | .int i=>i.natAbs < 10 ^ 60
 | .str z=>cg z=false∧z.length≤8∧z.cps.toList≠[]∧∀c∈z.cps.toList,33≤c
 | _=>False
theorem wdW.word {v:V} (h:wdW v):tq v:=by
 cases v with
 | int i=>exact m5 h
 | str z=>exact True.intro
 | _=>exact h.elim
theorem okW.wd {v:V} (h:okW v):wdW v:=by
 cases v with
 | int i=>exact h
 | str z=>
  obtain ⟨h1,h2,h3⟩:=vd h;exact ⟨Fo h,h2,h1,λc hc=>by have:=h3 c hc;omega⟩
 | _=>exact h.elim
theorem wdW.text {v:V} (h:wdW v):(ag v).length≤61∧(ag v).cps.toList≠[]∧∀c∈(ag v).cps.toList,33≤c:=by
 cases v with
 | int i=>
  refine ⟨(dz h).2.2,?_⟩;cases i with
  | ofNat m=>
   rw[show (ag (V.int (Int.ofNat m))).cps.toList=fz m from yo m];exact ⟨vt m,λc hc=>by have:=dm m c hc;omega⟩
  | negSucc m=>
   rw[zj];refine ⟨by simp,λc hc=>?_⟩;rcases List.mem_cons.mp hc with e | hc
   ·omega
   ·have:=dm (m+1) c hc;omega
 | str z=>exact ⟨by have:=h.2.1;show z.length≤61;omega,h.2.2⟩
 | _=>exact h.elim
theorem gf (z:Str) (h:cg z=false∧z.length≤8∧z.cps.toList≠[]∧∀c∈z.cps.toList,33≤c):wdW (.str z):=h
theorem feedS:("\n":Str)=⟨#[10]⟩:=by decide+kernel
theorem iq:∀xs:List Str,(Str.join (⟨#[10]⟩:Str) xs).cps.toList=fi 10 (xs.map (·.cps.toList))
 | []=>rfl
 | [x]=>by
  show x.cps.toList=x.cps.toList
  rfl
 | x::y::r=>by
  have ih:=iq (y::r);show (x++(⟨#[10]⟩:Str)++Str.join ⟨#[10]⟩ (y::r)).cps.toList=x.cps.toList++10::fi 10 ((y::r).map (·.cps.toList))
  rw[←ih];simp[Str.cps_append]
theorem uu:∀a b:List Str,a.map (·.cps.toList)=b.map (·.cps.toList)→a=b
 | [],[],_=>rfl
 | [],_::_,e=>by cases e
 | _::_,[],e=>by cases e
 | x::r,y::q,e=>by
  simp only[aao,adm] at e;rw[vi.mpr e.1,uu r q e.2]
theorem Cp (xs:List Str) (h:xs≠[]) (hf:∀x∈xs,10∉x.cps.toList):Txt.split (Txt.join "\n" xs) "\n"=xs:=by
 have e1:Txt.join "\n" xs=Str.join ⟨#[10]⟩ xs:=by
  rw[feedS];exact StrLaws.glued_eq_join _ xs
 rw[e1,feedS];have hj:=StrLaws.join_split (Str.join ⟨#[10]⟩ xs) ⟨#[10]⟩;have hfr:=StrLaws.split_free (Str.join ⟨#[10]⟩ xs) 10;have hne:=zb (Str.join ⟨#[10]⟩ xs) ⟨#[10]⟩;generalize Txt.split (Str.join ⟨#[10]⟩ xs) ⟨#[10]⟩=ys at hj hfr hne;have hc:fi 10 (ys.map (·.cps.toList))=fi 10 (xs.map (·.cps.toList)):=by rw[←iq,←iq,hj]
 exact uu _ _ (m8 (by simpa using hne) (by simpa using h) (λx hx=>by obtain ⟨z,hz,rfl⟩:=List.mem_map.mp hx;exact hfr z hz) (λx hx=>by obtain ⟨z,hz,rfl⟩:=List.mem_map.mp hx;exact hf z hz) hc)
noncomputable abbrev kdV:V:=.str "kind"
noncomputable abbrev rlV:V:=.str "rule"
noncomputable abbrev dsV:V:=.str "does"
noncomputable abbrev noV:V:=.str ""
def rp (v:V):Prop:=v=.str "out"∨v=.str "t1"∨v=.str "t2"∨v=.str "t3"
noncomputable def gq (l k:Nat):Str:=⟨#[l,48+k]⟩
def zp (l:Nat) (v:V):Prop:=∃k,1≤k∧k≤9∧v=.str (gq l k)
def ny (v:V):Prop:=rp v∨zp 104 v
def shW (v:V):Prop:=okW v∨v=.str "any"∨v=.str "var"
def ke (d:List V):Prop:=(∃b x,d=[.str "put",b,x]∧rp b∧((∃i:Int,x=.int i∧i.natAbs < 10 ^ 60)∨zp 110 x))∨(∃b x,d=[.str "load",b,x]∧rp b∧zp 118 x)∨(∃b x,d=[.str "neg",b,x]∧rp b∧ny x)∨
 ∃z b x y,d=[.str z,b,x,y]∧arS z=2∧rp b∧ny x∧ny y
inductive Rw where
 | kind (n:Str)
 | rule (n k:Str) (p:Int) (ws:List V)
 | does (n:Str) (d:List V)
 | none
noncomputable def Rw.vs:Rw→List V
 | .kind n=>[kdV,.str n]
 | .rule n k p ws=>rlV::.str n::.str k::.int p::ws
 | .does n d=>dsV::.str n::d
 | .none=>[noV]
def Rw.ok:Rw→Prop
 | .kind n=>ax n=true
 | .rule n k p ws=>ax n=true∧ax k=true∧1≤p∧p≤999999∧1≤ws.length∧ws.length≤12∧∀v∈ws,shW v
 | .does n d=>ax n=true∧ke d
 | .none=>True
noncomputable def Rw.tx:Rw→List V
 | .rule n k p ws=>rlV::.str n::.str k::.int p::.str "="::ws
 | r=>r.vs
noncomputable def Rw.line (r:Rw):Str:=Txt.join " " (r.tx.map ag)
noncomputable def Rw.full:Rw→Bool
 | .none=>false
 | _=>true
theorem qy {v:V} (h:rp v):wdW v:=by
 rcases h with rfl | rfl | rfl | rfl <;> (refine gf _ ?_;decide+kernel)
theorem xf {l:Nat} {v:V} (hl:58≤l) (h:zp l v):wdW v:=by
 obtain ⟨k,k1,k2,rfl⟩:=h;have e:(gq l k).cps.toList=[l,48+k]:=rfl;refine ⟨?_,by show (2:Nat)≤8;decide,by rw[e];simp,λc hc=>?_⟩
 ·unfold cg;have f:eh (gq l k).cps.toList=[l,48+k]:=by
   rw[e];unfold eh;rw[if_neg];intro h;have:l=45:=aac h;omega
  rw[f];have:([l,48+k].all λc=>decide (c∈Ao.cps.toList))=false:=by
   rw[ae7];intro q;rw[ac8] at q;have:=(vh l).mp (of_decide_eq_true (q l aa6));omega
  rw[this];simp
 ·rw[e] at hc;simp only[aav,aar,or_false] at hc;omega
theorem wg {v:V} (h:ny v):wdW v:=h.elim qy (xf (by decide))
theorem sh_wd {v:V} (h:shW v):wdW v:=by
 rcases h with h | rfl | rfl
 ·exact h.wd
 ·exact gf _ (by decide+kernel)
 ·exact gf _ (by decide+kernel)
theorem n5 {z:Str} (h:ax z=true):wdW (.str z):=okW.wd (.inl h)
theorem n8 {d:List V} (h:ke d):∀v∈d,wdW v:=by
 rcases h with ⟨b,x,rfl,hb,hx⟩ | ⟨b,x,rfl,hb,hx⟩ | ⟨b,x,rfl,hb,hx⟩ | ⟨z,b,x,y,rfl,hz,hb,hx,hy⟩ <;> intro v hv <;> simp only[aav,aar,or_false] at hv
 ·rcases hv with rfl | rfl | rfl
  ·exact gf _ (by decide+kernel)
  ·exact qy hb
  ·rcases hx with ⟨i,rfl,hi⟩ | hx
   ·exact hi
   ·exact xf (by decide) hx
 ·rcases hv with rfl | rfl | rfl
  ·exact gf _ (by decide+kernel)
  ·exact qy hb
  ·exact xf (by decide) hx
 ·rcases hv with rfl | rfl | rfl
  ·exact gf _ (by decide+kernel)
  ·exact qy hb
  ·exact wg hx
 ·rcases hv with rfl | rfl | rfl | rfl
  ·exact okW.wd (.inr (by omega))
  ·exact qy hb
  ·exact wg hx
  ·exact wg hy
theorem dw {d:List V} (h:ke d):3≤d.length∧d.length≤4:=by
 rcases h with ⟨b,x,rfl,_⟩ | ⟨b,x,rfl,_⟩ | ⟨b,x,rfl,_⟩ | ⟨z,b,x,y,rfl,_⟩ <;> exact ⟨by simp,by simp⟩
theorem Rw.wd {r:Rw} (h:r.ok) (f:r.full=true):∀v∈r.tx,wdW v:=by
 cases r with
 | kind n=>
  intro v hv;simp only[Rw.tx,Rw.vs,aav,aar,or_false] at hv;rcases hv with rfl | rfl
  ·exact gf _ (by decide+kernel)
  ·exact n5 h
 | rule n k p ws=>
  obtain ⟨h1,h2,h3,h4,h5,h6,h7⟩:=h;intro v hv;simp only[Rw.tx,aav] at hv;rcases hv with rfl | rfl | rfl | rfl | rfl | hv
  ·exact gf _ (by decide+kernel)
  ·exact n5 h1
  ·exact n5 h2
  ·show p.natAbs < 10 ^ 60
   exact ab1 (show p.natAbs≤999999 by omega) (by decide+kernel)
  ·exact gf _ (by decide+kernel)
  ·exact sh_wd (h7 v hv)
 | does n d=>
  intro v hv;simp only[Rw.tx,Rw.vs,aav] at hv;rcases hv with rfl | rfl | hv
  ·exact gf _ (by decide+kernel)
  ·exact n5 h.1
  ·exact n8 h.2 v hv
 | none=>cases f
theorem Rw.txl {r:Rw} (h:r.ok):1≤r.tx.length∧r.tx.length≤17:=by
 cases r with
 | kind n=>exact ⟨by show 1≤(2:Nat);decide,by show (2:Nat)≤17;decide⟩
 | rule n k p ws=>have:=h.2.2.2.2.2.1;exact ⟨by simp[Rw.tx],by simp only[Rw.tx,aa8];omega⟩
 | does n d=>have:=dw h.2;exact ⟨by simp[Rw.tx,Rw.vs],by simp only[Rw.tx,Rw.vs,aa8];omega⟩
 | none=>exact ⟨by show 1≤(1:Nat);decide,by show (1:Nat)≤17;decide⟩
theorem Im {ws:List V} (hf:∀v∈ws,wdW v):(Txt.join " " (ws.map ag)).length≤ws.length*62∧((ws.map ag).map (·.length)).sum+(ws.map ag).length*(" ":Str).length≤ws.length*62:=by
 have e1:(" ":Str).length=1:=by decide+kernel
 have key:((ws.map ag).map (·.length)).sum+(ws.map ag).length*(" ":Str).length≤ws.length*62:=by
  rw[e1,aa2];induction ws with
  | nil=>exact aa3 _
  | cons v r ih=>
   have h1:=(hf v aa6).text.1;have h2:=ih λx hx=>hf x (aab _ hx);simp only[aao,ad6,aa8];omega
 exact ⟨aak (join_le " " (ws.map ag)) key,key⟩
theorem Ba (r:Rw):r.line.cps.toList=fi 32 ((r.tx.map ag).map (·.cps.toList)):=by
 unfold Rw.line;rw[show Txt.join " " (r.tx.map ag)=Str.join ⟨#[32]⟩ (r.tx.map ag) by rw[Bb];exact StrLaws.glued_eq_join _ _];exact gw _
theorem n9 {r:Rw} (h:r.ok) (f:r.full=true):r.line≠"":=by
 intro e;have hc:=Ba r;rw[e,show (("":Str)).cps.toList=[] by decide+kernel] at hc;have hw:=Rw.wd h f;have hl:=(Rw.txl h).1;cases ht:r.tx with
 | nil=>rw[ht] at hl;exact absurd hl (by decide)
 | cons v q=>
  rw[ht] at hc hw;have h0:=(hw v aa6).text.2.1;cases q with
  | nil=>exact h0 hc.symm
  | cons u q=>
   have hc:[]=(ag v).cps.toList++32::fi 32 (((u::q).map ag).map (·.cps.toList)):=hc;simp at hc
noncomputable def dk (rs:List Rw):List Str:=rs.filterMap λ| .kind n=>some n | _=>none
noncomputable def aj (rs:List Rw):List Str:=rs.filterMap λ| .rule n _ _ _=>some n | _=>none
noncomputable def b5 (rs:List Rw) (n:Str):List (List V):=rs.filterMap λ| .does m d=>if m=n then some d else none | _=>none
structure Rd5 where
 name:Str
 kind:Str
 price:Int
 shape:List V
 deeds:List (List V)
noncomputable def de (all:List Rw):List Str→List Rw→List Rd5
 | _,[]=>[]
 | seen,.rule n k p ws::q=>⟨n,k,p,ws,if n∈seen then [] else b5 all n⟩::de all (seen++[n]) q
 | seen,_::q=>de all seen q
def b9 (H:Hp) (as:List Addr) (ts:List (List V)):Prop:=as.length=ts.length∧∀(i:Nat) (a:Addr) (t:List V),as[i]?=some a→ts[i]?=some t→H a=some (.tup t)
def ur (H:Hp) (a:Addr) (r:Rd5):Prop:=∃sa da as,H a=some (.tup [.str r.name,.str r.kind,.int r.price,.ref sa,.ref da])∧H sa=some (.tup r.shape)∧H da=some (.tup (as.map V.ref))∧b9 H as r.deeds
def cn (H:Hp) (as:List Addr) (rs:List Rd5):Prop:=as.length=rs.length∧∀(i:Nat) (a:Addr) (r:Rd5),as[i]?=some a→rs[i]?=some r→ur H a r
def Tk (H H':Hp):Prop:=∀b xs,H b=some (.tup xs)→H' b=some (.tup xs)
theorem Tk.refl (H:Hp):Tk H H:=λ_ _ h=>h
theorem Tk.trans {H H1 H2:Hp} (a:Tk H H1) (b:Tk H1 H2):Tk H H2:=λx xs h=>b x xs (a x xs h)
theorem Tk.of {H H':Hp} (s:ao H H'):Tk H H':=λ_ _ h=>s _ _ h
theorem Tk.upd {H H':Hp} {a:Addr} {o:HO} (k:Tk H H') (h:∀xs,H a≠some (.tup xs)):Tk H (L2.upd H' a o):=λb xs e=>by
 by_cases c:b=a
 ·rw[c] at e;exact absurd e (h xs)
 ·rw[ai c];exact k b xs e
theorem b9.keep {H H':Hp} {as:List Addr} {ts:List (List V)} (h:b9 H as ts) (k:Tk H H'):b9 H' as ts:=⟨h.1,λi a t x y=>k _ _ (h.2 i a t x y)⟩
theorem b9.nil (H:Hp):b9 H [] []:=⟨rfl,λ_ _ _ h=>by cases h⟩
theorem lq {α β:Type} {as:List α} {ts:List β} {a:α} {t:β} (h:as.length=ts.length) {R:α→β→Prop} (hr:∀(i:Nat) (a:α) (t:β),as[i]?=some a→ts[i]?=some t→R a t) (ha:R a t):∀(i:Nat) (x:α) (y:β),(as++[a])[i]?=some x→(ts++[t])[i]?=some y→R x y:=by
 intro i x y e1 e2;by_cases c:i < as.length
 ·rw[ab6 c] at e1;rw[ab6 (by omega)] at e2;exact hr i x y e1 e2
 ·have hi:i=as.length:=by
   have:=(List.getElem?_eq_some_iff.mp e1).1;rw[aa4,abj] at this;omega
  subst hi;rw[aaz (aa3 _),ach] at e1;rw[h,aaz (aa3 _),ach] at e2;cases e1
  cases e2
  exact ha
theorem b9.snoc {H:Hp} {as:List Addr} {ts:List (List V)} {a:Addr} {t:List V} (h:b9 H as ts) (ha:H a=some (.tup t)):b9 H (as++[a]) (ts++[t]):=⟨by rw[aa4,aa4,h.1];rfl,lq h.1 h.2 ha⟩
theorem ur.keep {H H':Hp} {a:Addr} {r:Rd5} (h:ur H a r) (k:Tk H H'):ur H' a r:=let ⟨sa,da,as,h1,h2,h3,h4⟩:=h;⟨sa,da,as,k _ _ h1,k _ _ h2,k _ _ h3,h4.keep k⟩
theorem cn.keep {H H':Hp} {as:List Addr} {rs:List Rd5} (h:cn H as rs) (k:Tk H H'):cn H' as rs:=⟨h.1,λi a r x y=>(h.2 i a r x y).keep k⟩
theorem cn.nil (H:Hp):cn H [] []:=⟨rfl,λ_ _ _ h=>by cases h⟩
theorem cn.snoc {H:Hp} {as:List Addr} {rs:List Rd5} {a:Addr} {r:Rd5} (h:cn H as rs) (ha:ur H a r):cn H (as++[a]) (rs++[r]):=⟨by rw[aa4,aa4,h.1];rfl,lq h.1 h.2 ha⟩
theorem d7 {as:List Addr} {i:Nat} {u:V} (h:(as.map V.ref)[i]?=some u):∃a,as[i]?=some a∧u=.ref a:=by
 rw[aag] at h;obtain ⟨a,h1,h2⟩:=Option.map_eq_some_iff.mp h;exact ⟨a,h1,h2.symm⟩
noncomputable def mag (x:Int):Nat:=max x.natAbs 2
def j7:V→Prop
 | .int i=>mag i≤2 ^ 200
 | _=>True
end Pc
namespace L2
open PySem PySem.Spec PyProof.Rows
def vy (i:Int):Prop:=∃n,n≤1000000∧i.natAbs < 2 ^ n
theorem vy.le {i:Int} (h:vy i):Builtin.Int.intBits i≤2 ^ 20:=by
 obtain ⟨n,hn,hi⟩:=h;unfold Builtin.Int.intBits;split
 ·exact ab7 _
 ·rename_i h0
  have hne:i.natAbs≠0:=by
   intro e;exact h0 (by rw[Int.natAbs_eq_zero.mp e];rfl)
  have:=(adq hne).mpr hi;have e:(2:Nat) ^ 20=1048576:=rfl;omega
def CBits (i j:Int):Prop:=vy i∧vy j
theorem Lh {X:Cx}:OpR X (binaryOp .Mult) (rI CBits λi j=>.int (i*j)):=opI λ_ _ _ _ _ _ _ hc q=>mul_int q (IntMulOk.of_bits hc.1.le hc.2.le)
end L2
namespace Pc
open PySem PySem.Spec L2 PyProof.Rows
theorem jf (ws:List V) (p:Nat) (h:p≤ws.length):ck ws none (some (p:Int))=ws.take p:=by
 unfold ck;rw[HT.Ds,HT.zw,adn h];rfl
theorem zt (ws:List V) (p n:Nat) (h:p+n≤ws.length):ck ws (some ((p:Int)+(n:Int))) none=ws.drop (p+n):=by
 unfold ck;rw[show (p:Int)+(n:Int)=((p+n:Nat):Int) by omega,HT.Ds,HT.zw,adn h];apply ac5
 rw[aaf];omega
end Pc
namespace L2
open PySem PySem.Spec PyProof.Rows
theorem gp {K:PySem.W.Frag} {n:Nat} {a:Addr} {x0 x1:V} {i0 i1:Nat} {σ:L2.St} {H:Hp} {Q:L2.St→Hp→Prop} (h:H a=some (.tup [x0,x1])) (hn:2=n) (q:Q ((σ.set i0 (some x0)).set i1 (some x1)) H):gTup K n (Hc (iy i0) (Hc (iy i1) gNil)) (.ref a) σ H Q:=⟨a,_,rfl,SqT.of h,hn,_,_,rfl,_,_,rfl,rfl,q⟩
end L2
namespace Bk
open PySem PySem.Spec L2 PyProof.Rows Pc
def spTW:Sp:=λvs H Q _=>∃z,vs=[.str z]∧z.length≤1000∧∀H',ao H H'→Q (.bl (cg z||ax z||decide (0 < arS z))) H'
def qd:Sp:=λvs H Q _=>∃v,vs=[.str (ag v)]∧wdW v∧∀H',ao H H'→Q v H'
noncomputable def shB (z:Str):Bool:=(cg z||ax z||decide (0 < arS z))||inV (.str z) [.str "any",.str "var"]
def yt:Sp:=λvs H Q _=>∃z,vs=[.str z]∧z.length≤1000∧∀H',ao H H'→Q (.bl (shB z)) H'
noncomputable def j7 (l:Nat) (z:Str):Bool:=match z.cps.toList with
 | [a,b]=>decide (a=l)&&decide (49≤b∧b≤57)
 | _=>false
def jt:Sp:=λvs H Q _=>∃z l,vs=[.str z,.str ⟨#[l]⟩]∧z.length≤1000∧∀H',ao H H'→Q (.bl (j7 l z)) H'
noncomputable def kz:List V:=[.str "out",.str "t1",.str "t2",.str "t3"]
noncomputable def j9 (z:Str):Bool:=inV (.str z) kz
noncomputable def p0 (z:Str):Bool:=j9 z||j7 104 z
def vx:Sp:=λvs H Q _=>∃z,vs=[.str z]∧z.length≤1000∧∀H',ao H H'→Q (.bl (p0 z)) H'
noncomputable def dr (d z:Str):Bool:=if d="put" then cg z||j7 110 z else if d="load" then j7 118 z else p0 z
def Al:Sp:=λvs H Q _=>∃d z,vs=[.str d,.str z]∧z.length≤1000∧∀H',ao H H'→Q (.bl (dr d z)) H'
noncomputable def arQ (d:Str):Nat:=if d="put"∨d="load" then 1 else arS d
def wy:Sp:=λvs H Q _=>∃d,vs=[.str d]∧∀H',ao H H'→Q (.int (arQ d)) H'
noncomputable def ff (ts:List Str):Bool:=decide (3≤ts.length)&&j9 (ts.getD 1 "")&&decide (ts.length=2+arQ (ts.getD 0 ""))&&(ts.drop 2).all λz=>dr (ts.getD 0 "") z
def oh:Sp:=λvs H Q _=>∃(a:Addr) (ts:List Str),vs=[.ref a]∧H a=some (.lst (ts.map V.str))∧(∀z∈ts,z.length≤1000)∧ts.length≤1000∧∀H',ao H H'→Q (.bl (ff ts)) H'
def Di (z:Str):Prop:=cg z=true→∃i,PySem.intText? z=some i
noncomputable def dh (z:Str):Bool:=cg z&&(match PySem.intText? z with | some i=>decide (1≤i)&&decide (i≤999999) | none=>false)
def Dq:Sp:=λvs H Q _=>∃z,vs=[.str z]∧z.length≤1000∧Di z∧∀H',ao H H'→Q (.bl (dh z)) H'
noncomputable def kindB (ts:List Str):Bool:=decide (ts.length=2)&&decide (ts.getD 0 ""="kind")&&ax (ts.getD 1 "")
noncomputable def eg (ts:List Str):Bool:=decide (1≤(ts.drop 5).length)&&decide ((ts.drop 5).length≤12)&&decide (ts.getD 0 ""="rule")&&(ax (ts.getD 1 "")&&ax (ts.getD 2 "")&&dh (ts.getD 3 "")&&decide (ts.getD 4 ""="="))&&(ts.drop 5).all shB
noncomputable def gu (ts:List Str):Bool:=decide (2 < ts.length)&&decide (ts.getD 0 ""="does")&&ax (ts.getD 1 "")&&ff (ts.drop 2)
def n6:Sp:=λvs H Q _=>∃(a:Addr) (ts:List Str),vs=[.ref a]∧H a=some (.lst (ts.map V.str))∧(∀z∈ts,z.length≤1000)∧ts.length≤1000∧∀H',ao H H'→Q (.bl (kindB ts)) H'
def oj:Sp:=λvs H Q _=>∃(a:Addr) (ts:List Str),vs=[.ref a]∧H a=some (.lst (ts.map V.str))∧(∀z∈ts,z.length≤1000)∧Di (ts.getD 3 "")∧ts.length≤1000∧∀H',ao H H'→Q (.bl (eg ts)) H'
def oa:Sp:=λvs H Q _=>∃(a:Addr) (ts:List Str),vs=[.ref a]∧H a=some (.lst (ts.map V.str))∧(∀z∈ts,z.length≤1000)∧ts.length≤1000∧∀H',ao H H'→Q (.bl (gu ts)) H'
theorem bp {ts:List Str} {k:Nat} (h:k < ts.length):atI (ts.map V.str) ((k:Nat):Int)=some (.str (ts.getD k "")):=ay (by
 rw[aag,aa5 h,aam,aa5 h];rfl)
theorem m7 {ts:List Str} {k:Nat} (h:k < ts.length):ts.getD k ""∈ts:=by
 rw[aam,aa5 h];exact aaw h
theorem cx (ts:List Str) (k:Nat):ck (ts.map V.str) (some ((k:Nat):Int)) none=(ts.drop k).map V.str:=by
 by_cases h:k≤ts.length
 ·have:=zt (ts.map V.str) 0 k (by rw[aa2];omega);rw[show ((0:Nat):Int)+(k:Int)=(k:Int) by omega] at this;rw[this,Nat.zero_add,adw]
 ·have e:(ts.drop k).map V.str=[]:=by rw[acq (by omega)];rfl
  rw[e];unfold ck;rw[aa2];have:HT.sIx ts.length 0 (some ((k:Nat):Int))=ts.length:=by unfold HT.sIx;simp only[Option.elim];first | (rw[if_neg (by omega)];omega) | (simp;split <;> omega)
  rw[this,acq (by rw[aa2];exact aa3 _)];exact List.take_nil
theorem leaf2 {z:Str} {l a b:Nat} (h:z.cps.toList=[a,b]):j7 l z=(decide (a=l)&&decide (49≤b∧b≤57)):=by
 unfold j7;rw[h]
theorem Mv {z:Str} {l:Nat} (h:z.length≠2):j7 l z=false:=by
 unfold j7;rw[oq] at h;match e:z.cps.toList with
 | []=>rfl
 | [_]=>rfl
 | [_,_]=>rw[e] at h;exact absurd rfl h
 | _::_::_::_=>rfl
theorem in_nums (b:Nat):(!(Builtin.Str.occurrences (Str.ofString "123456789") ⟨#[b]⟩ 0 (Str.ofString "123456789").length 1).isEmpty)=decide (49≤b∧b≤57):=by
 rw[StrLaws.found_one];refine decide_eq_decide.mpr ?_;rw[show (Str.ofString "123456789").cps.toList=[49,50,51,52,53,54,55,56,57] by decide+kernel];simp only[aav,aar,or_false];omega
theorem Lp {z:Str} (h:cg z=true):z.length≤640:=by
 unfold cg at h;simp only[abb,decide_eq_true_eq] at h;have h2:=h.2.1;rw[oq];unfold eh at h2;split at h2
 ·rw[List.length_tail] at h2;omega
 ·omega
def RowAt (H:Hp) (l p:Addr) (ts:List Str):Prop:=∃(n:Int) (a:Addr),a≠l∧H p=some (.tup [.int n,.ref a])∧H a=some (.lst (ts.map V.str))
def Io (H:Hp) (l:Addr) (tss:List (List Str)):Prop:=∃ps:List Addr,H l=some (.lst (ps.map V.ref))∧ps.length=tss.length∧∀(i:Nat) (p:Addr) (ts:List Str),ps[i]?=some p→tss[i]?=some ts→RowAt H l p ts
noncomputable def txs (rs:List Rw):List (List Str):=rs.map λr=>r.tx.map ag
def good (rs:List Rw):Prop:=(∀r∈rs,r.ok∧r.full=true)∧rs.length≤100
def fq:Sp:=λvs H Q _=>∃(a:Addr) (ws:List V),vs=[.ref a]∧H a=some (.lst ((ws.map ag).map V.str))∧(∀v∈ws,wdW v)∧ws.length≤1000∧∀(t:Addr) (H':Hp),ao H H'→H t=none→H' t=some (.tup ws)→Q (.ref t) H'
def DA (C:Addr→Prop) (H:Hp) (d:Addr) (n:Nat) (f:Str→Option (List (List V))):Prop:=∃kvs:List (Key×V),H d=some (.dK kvs)∧kvs.length≤n∧(∀z,f z=none→bz kvs (.inr z)=none)∧(∀z ts,f z=some ts→∃a as,C a∧bz kvs (.inr z)=some (.ref a)∧H a=some (.lst (as.map V.ref))∧b9 H as ts)∧∀z y a,bz kvs (.inr z)=some (.ref a)→bz kvs (.inr y)=some (.ref a)→z=y
theorem yu {n:Str} (h:ax n=true):kindB ((Rw.kind n).tx.map ag)=true:=by
 show (decide ((2:Nat)=2)&&decide (("kind":Str)="kind")&&ax n)=true
 rw[h];decide
theorem sh_ok {v:V} (h:shW v):shB (ag v)=true:=by
 unfold shB;rcases h with h | rfl | rfl
 ·cases v with
  | int i=>rw[(dz h).1,ab3,ab3,ab3]
  | str z=>
   show ((cg z||ax z||decide (0 < arS z))||_)=true
   rcases (show ax z=true∨0 < arS z from h) with k | k
   ·rw[k,ab4,ab3,ab3]
   ·rw[decide_eq_true k,ab4,ab3]
  | _=>exact h.elim
 ·decide+kernel
 ·decide+kernel
theorem Kj {p:Int} (h1:1≤p) (h2:p≤999999):dh (ag (.int p))=true:=by
 have r:=dz (i:=p) (ab1 (show p.natAbs≤999999 by omega) (by decide+kernel));unfold dh;rw[r.1,r.2.1,ab0];show (decide (1≤p)&&decide (p≤999999))=true
 rw[decide_eq_true h1,decide_eq_true h2];rfl
theorem zh {n k:Str} {p:Int} {ws:List V} (h:(Rw.rule n k p ws).ok):eg ((Rw.rule n k p ws).tx.map ag)=true:=by
 obtain ⟨h1,h2,h3,h4,h5,h6,h7⟩:=h;have e:(((Rw.rule n k p ws).tx.map ag).drop 5)=ws.map ag:=rfl;unfold eg;rw[e,aa2,decide_eq_true h5,decide_eq_true h6];show (true&&true&&decide (("rule":Str)="rule")&&(ax n&&ax k&&dh (ag (.int p))&&decide (("=":Str)="="))&&(ws.map ag).all shB)=true
 rw[h1,h2,Kj h3 h4,show (ws.map ag).all shB=true from List.all_eq_true.mpr λz hz=>by obtain ⟨v,hv,rfl⟩:=List.mem_map.mp hz;exact sh_ok (h7 v hv)];decide
theorem rg {v:V} (h:rp v):j9 (ag v)=true:=by rcases h with rfl | rfl | rfl | rfl <;> decide+kernel
theorem xc {l:Nat} {v:V} (h:zp l v):j7 l (ag v)=true:=by
 obtain ⟨k,k1,k2,rfl⟩:=h;rw[leaf2 (show (ag (.str (gq l k))).cps.toList=[l,48+k] from rfl),decide_eq_true rfl,decide_eq_true (by omega)];rfl
theorem En {v:V} (h:ny v):p0 (ag v)=true:=by
 unfold p0;rcases h with h | h
 ·rw[rg h,ab3]
 ·rw[xc h,ab4]
theorem yk {d:List V} (h:ke d):ff (d.map ag)=true:=by
 rcases h with ⟨b,x,rfl,hb,hx⟩ | ⟨b,x,rfl,hb,hx⟩ | ⟨b,x,rfl,hb,hx⟩ | ⟨z,b,x,y,rfl,hz,hb,hx,hy⟩
 ·show (decide (3≤(3:Nat))&&j9 (ag b)&&decide ((3:Nat)=2+arQ "put")&&(dr "put" (ag x)&&true))=true
  have e:dr "put" (ag x)=true:=by
   unfold dr;rw[if_pos rfl];rcases hx with ⟨i,rfl,hi⟩ | hx
   ·rw[(dz hi).1,ab3]
   ·rw[xc hx,ab4]
  rw[rg hb,e,decide_eq_true (show (3:Nat)=2+arQ "put" by decide+kernel)];rfl
 ·show (decide (3≤(3:Nat))&&j9 (ag b)&&decide ((3:Nat)=2+arQ "load")&&(dr "load" (ag x)&&true))=true
  have e:dr "load" (ag x)=true:=by
   unfold dr;rw[if_neg (by decide+kernel),if_pos rfl];exact xc hx
  rw[rg hb,e,decide_eq_true (show (3:Nat)=2+arQ "load" by decide+kernel)];rfl
 ·show (decide (3≤(3:Nat))&&j9 (ag b)&&decide ((3:Nat)=2+arQ "neg")&&(dr "neg" (ag x)&&true))=true
  have e:dr "neg" (ag x)=true:=by
   unfold dr;rw[if_neg (by decide+kernel),if_neg (by decide+kernel)];exact En hx
  rw[rg hb,e,decide_eq_true (show (3:Nat)=2+arQ "neg" by decide+kernel)];rfl
 ·show (decide (3≤(4:Nat))&&j9 (ag b)&&decide ((4:Nat)=2+arQ z)&&(dr z (ag x)&&(dr z (ag y)&&true)))=true
  have n1:¬z="put":=λe=>by rw[e] at hz;exact absurd hz (by decide+kernel)
  have n2:¬z="load":=λe=>by rw[e] at hz;exact absurd hz (by decide+kernel)
  have e:∀v,ny v→dr z (ag v)=true:=λv hv=>by
   unfold dr;rw[if_neg n1,if_neg n2];exact En hv
  have ea:arQ z=2:=by unfold arQ;rw[if_neg (by rintro (e | e);exact n1 e;exact n2 e)];exact hz
  rw[rg hb,e x hx,e y hy,ea];rfl
theorem zv {n:Str} {d:List V} (h:(Rw.does n d).ok):gu ((Rw.does n d).tx.map ag)=true:=by
 have e:(((Rw.does n d).tx.map ag).drop 2)=d.map ag:=rfl;have hl:=dw h.2;unfold gu;rw[e,yk h.2,decide_eq_true (show 2 < ((Rw.does n d).tx.map ag).length by show 2 < (d.map ag).length+1+1;rw[aa2];omega)];show (true&&decide (("does":Str)="does")&&ax n&&true)=true
 rw[h.1];decide
theorem ju (k j:Key):∀kvs:List (Key×V),bz (iz kvs k) j=if j=k then none else bz kvs j
 | []=>by unfold iz;simp[bz]
 | p::r=>by
  have ih:=ju k j r;unfold iz at ih ⊢;rw[abx];by_cases c:p.1=k
  ·rw[if_neg (by simpa using c),ih];by_cases e:j=k
   ·rw[if_pos e,if_pos e]
   ·rw[if_neg e,if_neg e,bf (λh=>e (h.symm.trans c))]
  ·rw[if_pos (by simpa using c)];by_cases e:p.1=j
   ·rw[bg e,bg e,if_neg (λh=>c (e.trans h))]
   ·rw[bf e,bf e,ih]
theorem DA.new {C:Addr→Prop} {H:Hp} {d:Addr}:DA C (upd H d (.dK [])) d 0 (λ_=>none):=⟨[],aa,aa3 _,λ_ _=>rfl,(λ_ _ h=>by cases h),λ_ _ _ h=>by cases h⟩
theorem DA.same {C:Addr→Prop} {H H':Hp} {d:Addr} {n:Nat} {f:Str→Option (List (List V))} (h:DA C H d n f) (s:ao H H'):DA C H' d n f:=by
 obtain ⟨kvs,h1,h2,h3,h4,h5⟩:=h;refine ⟨kvs,s _ _ h1,h2,h3,λz ts e=>?_,h5⟩;obtain ⟨a,as,g0,g1,g2,g3⟩:=h4 z ts e;exact ⟨a,as,g0,g1,s _ _ g2,g3.keep (Tk.of s)⟩
theorem DA.ext {C:Addr→Prop} {H:Hp} {d:Addr} {n m:Nat} {f g:Str→Option (List (List V))} (h:DA C H d n f) (e:∀z,f z=g z) (hn:n≤m):DA C H d m g:=by
 rw[show g=f from funext λz=>(e z).symm];obtain ⟨kvs,h1,h2,h3⟩:=h;exact ⟨kvs,h1,aak h2 hn,h3⟩
theorem DA.put {C:Addr→Prop} {H:Hp} {d a:Addr} {n:Nat} {f:Str→Option (List (List V))} (h:DA C H d n f) (ha:H a=none) (hB:C a) (z:Str):∃kvs,upd H a (.lst []) d=some (.dK kvs)∧kvs.length≤n∧DA C (upd (upd H a (.lst [])) d (.dK (putK kvs (.inr z) (.ref a)))) d (n+1) (λy=>if y=z then some [] else f y):=by
 obtain ⟨kvs,h1,h2,h3,h4,h5⟩:=h;have hda:d≠a:=aq h1 ha;have old:∀y b,y≠z→bz kvs (.inr y)=some (.ref b)→b≠a:=by
  intro y b _ e e2;cases hf:f y with
  | none=>rw[h3 y hf] at e;cases e
  | some ts=>
   obtain ⟨a',as,_,g1,g2,_⟩:=h4 y ts hf;rw[e] at g1;have:b=a':=by injection (aac g1)
   rw[←this,e2,ha] at g2;cases g2
 have inj:∀y,(Sum.inr y:Key)=Sum.inr z↔y=z:=λy=>⟨Sum.inr.inj,λe=>by rw[e]⟩;refine ⟨kvs,by rw[ai hda];exact h1,h2,putK kvs (.inr z) (.ref a),aa,aak (d6 _ _ _) (adh h2),λy e=>?_,λy ts e=>?_,λy x b e1 e2=>?_⟩
 ·dsimp only at e;by_cases c:y=z
  ·rw[if_pos c] at e;cases e
  ·rw[if_neg c] at e;rw[gv,if_neg (λh=>c ((inj y).mp h)),h3 y e]
 ·dsimp only at e;by_cases c:y=z
  ·rw[if_pos c] at e;cases e
   refine ⟨a,[],hB,by rw[gv,if_pos ((inj y).mpr c)],by rw[ai hda.symm,aa];rfl,b9.nil _⟩
  ·rw[if_neg c] at e;obtain ⟨b,as,g0,g1,g2,g3⟩:=h4 y ts e;refine ⟨b,as,g0,by rw[gv,if_neg (λh=>c ((inj y).mp h))];exact g1,by rw[ai (ui g2 h1 (by intro h;cases h)),ai (old y b c g1)];exact g2,g3.keep ?_⟩;refine Tk.upd (Tk.of (ae ha _)) λxs e=>?_;rw[h1] at e;cases e
 ·rw[gv] at e1 e2;by_cases c1:(Sum.inr y:Key)=Sum.inr z
  ·rw[if_pos c1] at e1;by_cases c2:(Sum.inr x:Key)=Sum.inr z
   ·exact ((inj y).mp c1).trans ((inj x).mp c2).symm
   ·rw[if_neg c2] at e2;have:b=a:=by injection (aac e1) with h;exact h.symm
    exact absurd this (old x b (λh=>c2 ((inj x).mpr h)) e2)
  ·rw[if_neg c1] at e1;by_cases c2:(Sum.inr x:Key)=Sum.inr z
   ·rw[if_pos c2] at e2;have:b=a:=by injection (aac e2) with h;exact h.symm
    exact absurd this (old y b (λh=>c1 ((inj y).mpr h)) e1)
   ·rw[if_neg c2] at e2;exact h5 y x b e1 e2
theorem DA.get {C:Addr→Prop} {H:Hp} {d:Addr} {n:Nat} {f:Str→Option (List (List V))} (h:DA C H d n f) {z:Str} {ts:List (List V)} (hz:f z=some ts):∃kvs a as,C a∧H d=some (.dK kvs)∧bz kvs (.inr z)=some (.ref a)∧H a=some (.lst (as.map V.ref))∧b9 H as ts∧
  (∀t u,H t=some (.tup u)→DA C (upd H a (.lst (as.map V.ref++[.ref t]))) d n (λy=>if y=z then some (ts++[u]) else f y))∧DA C (upd H d (.dK (iz kvs (.inr z)))) d n (λy=>if y=z then none else f y):=by
 obtain ⟨kvs,h1,h2,h3,h4,h5⟩:=h;obtain ⟨a,as,g0,g1,g2,g3⟩:=h4 z ts hz;have inj:∀y,(Sum.inr y:Key)=Sum.inr z↔y=z:=λy=>⟨Sum.inr.inj,λe=>by rw[e]⟩;have hda:d≠a:=ui h1 g2 (by intro h;cases h);refine ⟨kvs,a,as,g0,h1,g1,g2,g3,λt u ht=>⟨kvs,by rw[ai hda];exact h1,h2,λy e=>?_,λy us e=>?_,h5⟩,iz kvs (.inr z),aa,aak (Ad _ _) h2,λy e=>?_,λy us e=>?_,λy x b e1 e2=>?_⟩
 ·dsimp only at e;by_cases c:y=z
  ·rw[if_pos c] at e;cases e
  ·rw[if_neg c] at e;exact h3 y e
 ·have tk:Tk H (upd H a (.lst (as.map V.ref++[.ref t]))):=Tk.upd (Tk.refl _) λxs e=>by rw[g2] at e;cases e
  dsimp only at e;by_cases c:y=z
  ·rw[if_pos c] at e;cases e
   subst c;exact ⟨a,as++[t],g0,g1,by rw[aa,aad];rfl,(g3.keep tk).snoc (tk _ _ ht)⟩
  ·rw[if_neg c] at e;obtain ⟨b,bs,k0,k1,k2,k3⟩:=h4 y us e;have hba:b≠a:=λe=>c (h5 y z a (by rw[←e];exact k1) g1);exact ⟨b,bs,k0,k1,by rw[ai hba];exact k2,k3.keep tk⟩
 ·dsimp only at e;rw[ju];by_cases c:y=z
  ·rw[if_pos ((inj y).mpr c)]
  ·rw[if_neg c] at e;rw[if_neg (λh=>c ((inj y).mp h)),h3 y e]
 ·dsimp only at e;by_cases c:y=z
  ·rw[if_pos c] at e;cases e
  ·rw[if_neg c] at e;obtain ⟨b,bs,k0,k1,k2,k3⟩:=h4 y us e;refine ⟨b,bs,k0,by rw[ju,if_neg (λh=>c ((inj y).mp h))];exact k1,by rw[ai (ui k2 h1 (by intro h;cases h))];exact k2,k3.keep (Tk.upd (Tk.refl _) λxs e=>by rw[h1] at e;cases e)⟩
 ·rw[ju] at e1 e2;by_cases c1:(Sum.inr y:Key)=Sum.inr z
  ·rw[if_pos c1] at e1;cases e1
  ·by_cases c2:(Sum.inr x:Key)=Sum.inr z
   ·rw[if_pos c2] at e2;cases e2
   ·rw[if_neg c1] at e1;rw[if_neg c2] at e2;exact h5 y x b e1 e2
theorem DA.none {C:Addr→Prop} {H:Hp} {d:Addr} {n:Nat} {f:Str→Option (List (List V))} (h:DA C H d n f) {z:Str} (hz:f z=none):∃kvs,H d=some (.dK kvs)∧bz kvs (.inr z)=none:=let ⟨kvs,h1,_,h3,_⟩:=h;⟨kvs,h1,h3 z hz⟩
theorem DA.away {C:Addr→Prop} {H:Hp} {d x:Addr} {n:Nat} {f:Str→Option (List (List V))} (h:DA C H d n f) (hx:H x=acp):DA (λa=>C a∧a≠x) H d n f:=by
 obtain ⟨kvs,h1,h2,h3,h4,h5⟩:=h;refine ⟨kvs,h1,h2,h3,λz ts e=>?_,h5⟩;obtain ⟨a,as,g0,g1,g2,g3⟩:=h4 z ts e;exact ⟨a,as,⟨g0,aq g2 hx⟩,g1,g2,g3⟩
theorem DA.upd {C:Addr→Prop} {H:Hp} {d x:Addr} {n:Nat} {f:Str→Option (List (List V))} (h:DA C H d n f) (hx:∀a,C a→a≠x) (hd:d≠x) (hT:∀xs,H x≠some (.tup xs)) (o:HO):DA C (L2.upd H x o) d n f:=by
 obtain ⟨kvs,h1,h2,h3,h4,h5⟩:=h;refine ⟨kvs,by rw[ai hd];exact h1,h2,h3,λz ts e=>?_,h5⟩;obtain ⟨a,as,g0,g1,g2,g3⟩:=h4 z ts e;exact ⟨a,as,g0,g1,by rw[ai (hx a g0)];exact g2,g3.keep (Tk.upd (Tk.refl _) hT)⟩
theorem qz {q:List Rw} {n k:Str} {p:Int} {ws:List V}:aj (q++[.rule n k p ws])=aj q++[n]:=by unfold aj;rw[aaj];rfl
theorem o9 {q:List Rw} {n:Str}:aj (q++[.kind n])=aj q:=by unfold aj;rw[aaj];exact aaq _
theorem qr {q:List Rw} {n:Str} {d:List V}:aj (q++[.does n d])=aj q:=by unfold aj;rw[aaj];exact aaq _
theorem As {q:List Rw} {n k z:Str} {p:Int} {ws:List V}:b5 (q++[.rule n k p ws]) z=b5 q z:=by unfold b5;rw[aaj];exact aaq _
theorem Cq {q:List Rw} {n z:Str}:b5 (q++[.kind n]) z=b5 q z:=by unfold b5;rw[aaj];exact aaq _
theorem Cm {q:List Rw} {n z:Str} {d:List V}:b5 (q++[.does n d]) z=if n=z then b5 q z++[d] else b5 q z:=by
 unfold b5;rw[aaj];by_cases c:n=z
 ·rw[if_pos c];simp[ac3,c]
 ·rw[if_neg c];simp[ac3,c]
theorem Fh (rs:List Rw) (z:Str):(b5 rs z).length≤rs.length:=aci _ _
theorem Cg {q:List Rw} {n k:Str} {p:Int} {ws:List V}:dk (q++[.rule n k p ws])=dk q:=by unfold dk;rw[aaj];exact aaq _
theorem Bf {q:List Rw} {n:Str}:dk (q++[.kind n])=dk q++[n]:=by unfold dk;rw[aaj];rfl
theorem Bh {q:List Rw} {n:Str} {d:List V}:dk (q++[.does n d])=dk q:=by unfold dk;rw[aaj];exact aaq _
theorem cu {all:List Rw}:∀{q r:List Rw} {s:List Str},de all s (q++r)=de all s q++de all (s++aj q) r
 | [],r,s=>by rw[show aj []=[] from rfl,aaq];rfl
 | .rule n k p ws::q,r,s=>by
  show _::de all (s++[n]) (q++r)=_::(de all (s++[n]) q++_)
  rw[cu (q:=q),show aj (.rule n k p ws::q)=n::aj q from rfl,acn];rfl
 | .kind n::q,r,s=>cu (q:=q)
 | .does n d::q,r,s=>cu (q:=q)
 | .none::q,r,s=>cu (q:=q)
theorem fm {all:List Rw}:∀{q:List Rw} {s:List Str},(de all s q).length≤q.length
 | [],_=>aa3 _
 | .rule n k p ws::q,s=>adh (fm (q:=q))
 | .kind n::q,s=>abt (fm (q:=q))
 | .does n d::q,s=>abt (fm (q:=q))
 | .none::q,s=>abt (fm (q:=q))
theorem K6 {K:PySem.W.Frag} {i j:Nat} {c:Int} {σ:L2.St} {H:Hp} {Q:VK} {d a:Addr} {ts:List Str} {z:Str} {kvs:List (Key×V)} (R:Addr→Hp→Prop) (hd:σ[i]?=some (some (.ref d))) (ha:σ[j]?=some (some (.ref a))) (hA:H a=some (.lst (ts.map V.str))) (hz:atI (ts.map V.str) c=some (.str z)) (hk:H d=some (.dK kvs))
  (hs:∀v e,H e=none→bz kvs (.inr z)=some v→∃b,v=.ref b∧R b (upd (upd H e (.lst [])) d (.dK (iz kvs (.inr z))))) (hn:∀e,H e=none→bz kvs (.inr z)=none→R e (upd H e (.lst []))) (q:∀b H5,R b H5→Q (.ref b) H5):
  Bz (j3 i) (tOp (sm K) (j3 j) (tC (.int c))) (tLst tNil) σ H Q:=by
 simp only[Bz,j3,tOp,tC,tLst,tNil,hd,ha];refine ⟨d,rfl,.inl ⟨kvs,.inl hk⟩,ah hA hz ⟨ab7 _,λe he=>⟨kvs,Sum.inr z,by rw[ai (aq hk he)];exact hk,rfl,λv hv=>?_,λhv=>q e _ (hn e he hv)⟩⟩⟩;obtain ⟨b,rfl,r⟩:=hs v e he hv;exact q b _ r
theorem Na {z:Str} {xs:List V} (h:V.str z∈xs):inV (.str z) xs=true:=List.any_eq_true.mpr ⟨_,h,by simp[eqV]⟩
def aw (H:Hp) (h:Addr) (n:Nat):Prop:=∃a b c:Int,H h=some (.lst [.int a,.int b,.int c])∧0≤a∧a≤(n:Int)∧0≤b∧b < 1000000007
def vz:Sp:=λvs H Q _=>∃(c:Int) (k:Nat),vs=[.int c,.int (k:Int)]∧k≤100∧∀(l:Addr) (H':Hp),ao H H'→H l=none→aw H' l 0→Q (.ref l) H'
def di:Sp:=λvs H Q _=>∃(h:Addr) (m:Int) (n:Nat),vs=[.ref h,.int m]∧aw H h n∧n≤10000∧0 < m∧m.natAbs.log2 < 9000∧∀(x:Int) (H':Hp),ak h H H'→aw H' h (n+1)→0≤x→x < m→Q (.int x) H'
def xq:Sp:=λvs H Q _=>∃(h:Addr) (n:Nat),vs=[.ref h]∧aw H h n∧n≤9990∧∀(x:Int) (H':Hp),ak h H H'→aw H' h (n+2)→x.natAbs < 10 ^ 60→Q (.int x) H'
def vp:Sp:=λvs H Q _=>∃(h l:Addr) (n:Nat),vs=[.ref h,.ref l]∧aw H h n∧Names H l 20∧n≤9000∧∀(v:V) (H':Hp),ak h H H'→aw H' h (n+3)→shW v→Q v H'
def ve (r:List V):Prop:=(∃n,r=[kdV,.str n]∧ax n=true)∨(∃n k p ws,r=rlV::.str n::.str k::.int p::ws∧(Rw.rule n k p ws).ok)∨r=[noV]∨∃i d,r=dsV::.int i::d∧ke d∧0≤i∧i < 1000
def Je (H:Hp) (l:Addr) (rs:List (List V)):Prop:=∃ps:List Addr,H l=some (.lst (ps.map V.ref))∧b9 H ps rs
def Told (rs:List Rw):Prop:=(∀r∈rs,r.ok)∧rs.length≤63∧∀n d,Rw.does n d∈rs→n∈aj rs
def Cn:Sp:=λvs H Q _=>∃(t:Addr) (r:Rw),vs=[.ref t]∧H t=some (.tup r.vs)∧r.ok∧∀H',ao H H'→Q (.str r.line) H'
theorem aw.le {H:Hp} {h:Addr} {n m:Nat} (a:aw H h n) (e:n≤m):aw H h m:=let ⟨x,y,z,h1,h2,h3,h4,h5⟩:=a;⟨x,y,z,h1,h2,by omega,h4,h5⟩
theorem aw.same {H H':Hp} {h:Addr} {n:Nat} (a:aw H h n) (s:ao H H'):aw H' h n:=let ⟨x,y,z,h1,r⟩:=a;⟨x,y,z,s _ _ h1,r⟩
theorem aw.ne {H:Hp} {h l:Addr} {n:Nat} {xs:List V} (a:aw H h n) (hl:H l=some (.lst xs)) (hx:xs.length≠3):l≠h:=λe=>by
 obtain ⟨x,y,z,h1,_⟩:=a;rw[e,h1] at hl;cases hl
 exact hx rfl
theorem az {H:Hp} {h:Addr} {m:Int} {n:Nat} {Q:VK} {E:XK} (hh:aw H h n) (hn:n≤10000) (hm:0 < m) (hb:m.natAbs.log2 < 9000) (q:∀(x:Int) (H':Hp),ak h H H'→aw H' h (n+1)→0≤x→x < m→Q (.int x) H'):di [.ref h,.int m] H Q E:=⟨h,m,n,rfl,hh,hn,hm,hb,q⟩
theorem ug:∀(zs:List Str) {x:Nat},x∈(Str.join (⟨#[]⟩:Str) zs).cps.toList→∃z∈zs,x∈z.cps.toList
 | [],x,h=>by cases h
 | [z],x,h=>⟨z,aa6,h⟩
 | z::y::r,x,h=>by
  have h:x∈(z++(⟨#[]⟩:Str)++Str.join ⟨#[]⟩ (y::r)).cps.toList:=h;simp only[Str.cps_append,acd,ado] at h;rcases h with (h | h) | h
  ·exact ⟨z,aa6,h⟩
  ·cases h
  ·obtain ⟨u,hu,hx⟩:=ug (y::r) h;exact ⟨u,aab _ hu,hx⟩
theorem Cd {zs:List Str} {x:Nat} (h:x∈(Txt.join "" zs).cps.toList):∃z∈zs,x∈z.cps.toList:=by
 have e:Txt.join "" zs=Str.join ⟨#[]⟩ zs:=by
  rw[show (Str.ofString "")=(⟨#[]⟩:Str) by decide+kernel];exact StrLaws.glued_eq_join _ zs
 rw[e] at h;exact ug zs h
theorem let_of {x:Int} (h0:0≤x) (h1:x < 26):∃c:Nat,atI sf.cps.toList x=some c∧97≤c∧c≤122:=by
 obtain ⟨c,h,l⟩:=let_at x;rw[Int.emod_eq_of_lt h0 h1] at h;exact ⟨97+c,h,by omega,by omega⟩
theorem Lv:∀z∈keptS,ax (z++Str.ofString "x")=true:=by decide+kernel
theorem Le {z:Str} (h1:1≤z.length) (h8:z.length≤8) (hc:∀c∈z.cps.toList,97≤c∧c≤122):(inV (.str z) i3=true→ax (z++Str.ofString "x")=true)∧(inV (.str z) i3=false→ax z=true):=by
 refine ⟨λh=>?_,Jv h1 h8 hc⟩;have hm:=Eb h;refine Lv z ?_;have e:i3=keptS.map V.str:=rfl;rw[e] at hm;obtain ⟨y,hy,e⟩:=List.mem_map.mp hm;cases e
 exact hy
theorem u0:∀k:_root_.Fin 9,(Str.ofString "n"++ag (.int (1+(k.val:Int)))=gq 110 (k.val+1))∧(Str.ofString "v"++ag (.int (1+(k.val:Int)))=gq 118 (k.val+1))∧(Str.ofString "h"++ag (.int (1+(k.val:Int)))=gq 104 (k.val+1)):=by decide+kernel
noncomputable def j4:List V:=[.str "out",.str "t1",.str "t2",.str "t3"]++(abf 9).map λk=>V.str (gq 104 (k+1))
theorem Ib:∀v∈j4,ny v:=by
 intro v hv;unfold j4 at hv;rcases List.mem_append.mp hv with h | h
 ·left
  simpa [rp] using h
 ·right
  obtain ⟨k,hk,rfl⟩:=List.mem_map.mp h;have:=List.mem_range.mp hk;exact ⟨k+1,by omega,by omega,rfl⟩
theorem Nb:∀v∈([.str "out",.str "t1",.str "t2",.str "t3"]:List V),rp v:=by
 intro v hv;simpa [rp] using hv
theorem Mu:∀v∈([.str "add",.str "sub",.str "mul"]:List V),∃z,v=.str z∧arS z=2:=by
 intro v hv;simp only[aav,aar,or_false] at hv;rcases hv with rfl | rfl | rfl <;> exact ⟨_,rfl,by decide+kernel⟩
theorem Mj:∀v∈([.str "add",.str "sub",.str "mul",.str "neg",.str "any",.str "var"]:List V),shW v:=by
 intro v hv;simp only[aav,aar,or_false] at hv;rcases hv with rfl | rfl | rfl | rfl | rfl | rfl
 ·exact .inl (.inr (by decide+kernel))
 ·exact .inl (.inr (by decide+kernel))
 ·exact .inl (.inr (by decide+kernel))
 ·exact .inl (.inr (by decide+kernel))
 ·exact .inr (.inl rfl)
 ·exact .inr (.inr rfl)
inductive Rr where
 | it (r:Rw)
 | dn (i:Int) (d:List V)
noncomputable def Rr.vs:Rr→List V
 | .it r=>r.vs
 | .dn i d=>dsV::.int i::d
def Rr.ok:Rr→Prop
 | .it r=>r.ok∧∀n d,r≠.does n d
 | .dn i d=>ke d∧0≤i∧i < 1000
noncomputable def bj (qs:List Rr):List Str:=qs.filterMap λ| .it (.rule n _ _ _)=>some n | _=>none
theorem raw_of {r:List V} (h:ve r):∃q:Rr,r=q.vs∧q.ok:=by
 rcases h with ⟨n,rfl,hn⟩ | ⟨n,k,p,ws,rfl,ok⟩ | rfl | ⟨i,d,rfl,hd,h0,h1⟩
 ·exact ⟨.it (.kind n),rfl,hn,λ_ _ e=>by cases e⟩
 ·exact ⟨.it (.rule n k p ws),rfl,ok,λ_ _ e=>by cases e⟩
 ·exact ⟨.it .none,rfl,trivial,λ_ _ e=>by cases e⟩
 ·exact ⟨.dn i d,rfl,hd,h0,h1⟩
theorem Ez:∀{raws:List (List V)},(∀r∈raws,ve r)→∃qs:List Rr,raws=qs.map Rr.vs∧∀q∈qs,q.ok
 | [],_=>⟨[],rfl,λ_ h=>nomatch h⟩
 | r::rest,h=>by
  obtain ⟨q,e,ok⟩:=raw_of (h r aa6);obtain ⟨qs,e2,oks⟩:=Ez λx hx=>h x (aab _ hx);exact ⟨q::qs,by rw[e,e2];rfl,λx hx=>(List.mem_cons.mp hx).elim (λe=>e ▸ ok) (oks x)⟩
theorem K0 {q:List Rr} {n k:Str} {p:Int} {ws:List V}:bj (q++[.it (.rule n k p ws)])=bj q++[n]:=by unfold bj;rw[aaj];rfl
theorem Lj {q:List Rr} {n:Str}:bj (q++[.it (.kind n)])=bj q:=by unfold bj;rw[aaj];exact aaq _
theorem Me {q:List Rr}:bj (q++[.it .none])=bj q:=by unfold bj;rw[aaj];exact aaq _
theorem rr_dn {q:List Rr} {i:Int} {d:List V}:bj (q++[.dn i d])=bj q:=by unfold bj;rw[aaj];exact aaq _
theorem rr_len (qs:List Rr):(bj qs).length≤qs.length:=aci _ _
def j5 (H:Hp) (d:Addr) (n:Nat):Prop:=∃kvs:List (Key×V),H d=some (.dK kvs)∧kvs.length≤n∧∀z v,bz kvs (.inr z)=some v→∃i:Int,v=.int i
theorem j5.same {H H':Hp} {d:Addr} {n:Nat} (h:j5 H d n) (s:ao H H'):j5 H' d n:=let ⟨k,a,b,c⟩:=h;⟨k,s _ _ a,b,c⟩
theorem j5.le {H:Hp} {d:Addr} {n m:Nat} (h:j5 H d n) (e:n≤m):j5 H d m:=let ⟨k,a,b,c⟩:=h;⟨k,a,aak b e,c⟩
theorem j5.put {H:Hp} {d:Addr} {n:Nat} {kvs:List (Key×V)} {z:Str} {i:Int} (h:j5 H d n) (hk:H d=some (.dK kvs)):j5 (upd H d (.dK (putK kvs (.inr z) (.int i)))) d (n+1):=by
 obtain ⟨k,a,b,c⟩:=h;cases a.symm.trans hk
 refine ⟨_,aa,aak (d6 _ _ _) (adh b),λy v hv=>?_⟩;rw[gv] at hv;split at hv
 ·cases hv
  exact ⟨i,rfl⟩
 ·exact c y v hv
theorem raw_wd {r:List V} (h:ve r):(∀v∈r,tq v∧(ag v).length≤61)∧r.length≤17∧∃z s,r=.str z::s∧(z="kind"∨z="rule"∨z="does"∨z=""):=by
 have wt:∀{v:V},wdW v→tq v∧(ag v).length≤61:=λh=>⟨h.word,h.text.1⟩;rcases h with ⟨n,rfl,hn⟩ | ⟨n,k,p,ws,rfl,ok⟩ | rfl | ⟨i,d,rfl,hd,h0,h1⟩
 ·exact ⟨λv hv=>wt (Rw.wd (r:=.kind n) hn rfl v hv),by show (2:Nat)≤17;decide,_,_,rfl,.inl rfl⟩
 ·refine ⟨λv hv=>wt (Rw.wd ok rfl v ?_),?_,_,_,rfl,.inr (.inl rfl)⟩
  ·simp only[Rw.tx,aav] at hv ⊢;rcases hv with h | h | h | h | h
   ·exact .inl h
   ·exact .inr (.inl h)
   ·exact .inr (.inr (.inl h))
   ·exact .inr (.inr (.inr (.inl h)))
   ·exact .inr (.inr (.inr (.inr (.inr h))))
  ·have:=ok.2.2.2.2.2.1;show ws.length+4≤17
   omega
 ·refine ⟨λv hv=>?_,by show (1:Nat)≤17;decide,_,_,rfl,.inr (.inr (.inr rfl))⟩;rw[List.mem_singleton.mp hv];exact ⟨True.intro,by decide+kernel⟩
 ·refine ⟨λv hv=>?_,?_,_,_,rfl,.inr (.inr (.inl rfl))⟩
  ·rcases List.mem_cons.mp hv with rfl | hv
   ·exact ⟨True.intro,by decide+kernel⟩
   ·rcases List.mem_cons.mp hv with rfl | hv
    ·exact wt (show i.natAbs < 10 ^ 60 from ab1 (show i.natAbs≤1000 by omega) (by decide+kernel))
    ·exact wt (n8 hd v hv)
  ·have:=(dw hd).2;show d.length+2≤17
   omega
noncomputable abbrev k4 (a b c e:Int):List (Key×V):=[(Sum.inr "kind",.int a),(Sum.inr "rule",.int b),(Sum.inr "does",.int c),(Sum.inr "",.int e)]
def C4 (H:Hp) (d:Addr):Prop:=∃a b c e:Int,H d=some (.dK (k4 a b c e))
theorem C4.same {H H':Hp} {d:Addr} (h:C4 H d) (s:ao H H'):C4 H' d:=let ⟨a,b,c,e,h⟩:=h;⟨a,b,c,e,s _ _ h⟩
theorem k4_val (a b c e:Int) {z:Str} (hz:z="kind"∨z="rule"∨z="does"∨z=""):∃i:Int,bz (k4 a b c e) (Sum.inr z)=some (.int i):=by
 rcases hz with rfl | rfl | rfl | rfl
 ·exact ⟨a,rfl⟩
 ·exact ⟨b,rfl⟩
 ·exact ⟨c,rfl⟩
 ·exact ⟨e,rfl⟩
theorem C4.get {H:Hp} {d:Addr} {z:Str} (h:C4 H d) (hz:z="kind"∨z="rule"∨z="does"∨z=""):∃i:Int,jw H d (.str z) (some (.int i)):=by
 obtain ⟨a,b,c,e,h⟩:=h;obtain ⟨i,hi⟩:=k4_val a b c e hz;have:=jw.k (k:=Sum.inr z) h;rw[hi] at this;exact ⟨i,this⟩
theorem C4.put {H:Hp} {d:Addr} {z:Str} (h:C4 H d) (hz:z="kind"∨z="rule"∨z="does"∨z="") (v:Int):∃kvs,zf H d (.str z) (.int v) (upd H d (.dK kvs))∧C4 (upd H d (.dK kvs)) d:=by
 obtain ⟨a,b,c,e,h⟩:=h;refine ⟨_,zf.k (k:=Sum.inr z) h (by show (4:Nat) < sizeLine;decide),?_⟩;rcases hz with rfl | rfl | rfl | rfl
 ·exact ⟨v,b,c,e,by rw[aa];rfl⟩
 ·exact ⟨a,v,c,e,by rw[aa];rfl⟩
 ·exact ⟨a,b,v,e,by rw[aa];rfl⟩
 ·exact ⟨a,b,c,v,by rw[aa];rfl⟩
theorem ak.fresh {H H':Hp} {h:Addr} (s:ak h H H') (hn:H h=none):ao H H':=λb o ho=>s b o (aq ho hn) ho
theorem Fd {rs:List Rw} (h:Told rs):good (rs.filter Rw.full):=⟨λr hr=>let ⟨a,b⟩:=List.mem_filter.mp hr;⟨h.1 r a,b⟩,aak (acs _ _) (aak h.2.1 (by decide))⟩
end Bk
namespace L2
open PySem PySem.Spec PyProof.Rows
structure cq (fs ch:List Addr) (h h':Heap):Prop where
 keep:∀b o,h.get? b=some o→b∉fs→b∉ch→h'.get? b=some o
 slot:∀b o,h.get? b=some o→b∉ch→∃sl,h'.get? b=some { o with slots:=sl }
theorem cq.refl {fs ch:List Addr} {h:Heap}:cq fs ch h h:=⟨λ_ _ e _ _=>e,λ_ o e _=>⟨o.slots,e⟩⟩
theorem cq.un {fs ch:List Addr} {H:Hp} {h h':Heap} (t:cq fs ch h h') (hc:∀b∈ch,∃o,h'.get? b=some o):Un fs ch H H h h' where
 keep:=λb o e _ hb hx=>t.keep b o e hb hx
 slot:=λb o e _ _ hx=>t.slot b o e hx
 free:=λ_ _ _ n _=>n
 there:=λb o e hx=>let ⟨_,q⟩:=t.slot b o e hx;⟨_,q⟩
 tups:=λ_ _ e=>e
 frzs:=λ_ _ _ e=>e
 tbls:=λ_ _ e=>⟨#[],by rw[e];simp⟩
theorem cq.hok {P:Program} {w:World} {fs ch:List Addr} {H:Hp} {h h':Heap} (t:cq fs ch h h') (ok:HOk P w H h) (hf:∀b∈fs,H b=none) (hc:∀b∈ch,H b=none):HOk P w H h':=λb u e=>
 (ok b u e).rq (λc v hcb q=>by
  have key:∀{z},H c=some z→h'.get? c=some v:=λ{z} hz=>t.keep c v q (λx=>by rw[hf c x] at hz;cases hz) λx=>by rw[hc c x] at hz;cases hz
  rcases hcb with rfl | hcb
  ·exact key e
  ·exact key hcb) (λ_ q=>q) λ_ _ q=>q
structure Fly (n:Nat) (H:Hp) (h:Heap) (a:Addr) (cls:Value) (dx:Option Addr):Prop where
 lo:n≤a
 un:H a=none
 ob:∃oe vs,h.get? a=some oe∧oe.cls=cls∧oe.dict=dx∧oe.data=.fields vs∧1 < vs.size∧
  (vs[1]?=some .none∨∃T oT ts,vs[1]?=some (.ref T)∧n≤T∧H T=none∧T≠a∧h.get? T=some oT∧oT.data=.fields ts∧3 < ts.size)
structure qh (n:Nat) (H:Hp) (h:Heap) (a:Addr) (cls:Value) (dx:Option Addr):Prop where
 lo:n≤a
 un:H a=none
 ob:∃oe vs,h.get? a=some oe∧oe.cls=cls∧oe.dict=dx∧oe.data=.fields vs∧1 < vs.size∧
  ∃T oT ts,vs[1]?=some (.ref T)∧n≤T∧H T=none∧T≠a∧h.get? T=some oT∧oT.data=.fields ts∧3 < ts.size
section
variable {n m:Nat} {H:Hp} {h:Heap} {a:Addr} {cls:Value} {dx:Option Addr}
theorem qh.fly (x:qh n H h a cls dx):Fly n H h a cls dx:=let ⟨oe,vs,h1,h2,h3,h4,h5,h6⟩:=x.ob;⟨x.lo,x.un,oe,vs,h1,h2,h3,h4,h5,.inr h6⟩
theorem Fly.le (x:Fly n H h a cls dx) (hm:m≤n):Fly m H h a cls dx:=by
 obtain ⟨oe,vs,h1,h2,h3,h4,h5,h6⟩:=x.ob;refine ⟨aak hm x.lo,x.un,oe,vs,h1,h2,h3,h4,h5,?_⟩;rcases h6 with h6 | ⟨T,oT,ts,k1,k2,k3,k4,k5,k6,k7⟩
 ·exact .inl h6
 ·exact .inr ⟨T,oT,ts,k1,aak hm k2,k3,k4,k5,k6,k7⟩
end
section
variable {M:Model} {A:Around} {E:Value→Shared→Prop} {s:Shared} {n:Nat} {H:Hp} {a:Addr} {cls:Value} {dx:Option Addr}
theorem jd (o:Obj) (f:Array Value→Array Value):(o.mapFields f).dict=o.dict:=by
 obtain ⟨c,d,dt,sl⟩:=o;cases dt <;> rfl
theorem sg {fr:Option Addr} {Q:Unit→Shared→Prop} {fs:List Addr} (F:qh n H s.heap a cls dx)
  (q:∀h' ch,(∀b∈ch,n≤b∧H b=none∧∃o,h'.get? b=some o)→cq fs ch s.heap h'→qh n H h' a cls dx→Q () { s with heap:=h' }):wpAny M A (setFlight (.ref a) fr) Q E s:=by
 obtain ⟨oe,vs,h1,h2,h3,h4,h5,T,oT,ts,k1,k2,k3,k4,k5,k6,k7⟩:=F.ob;unfold setFlight;refine wpAny_bind (wpAny_field h1 h4 k1 ?_);rw[if_pos (show (Value.ref T !=Value.none)=true from by simp)];refine wpAny_setField k5 k6 k7 ?_;have self:=Heap.get?_update_self (Obj.mapFields (·.setIfInBounds 3 (fr.elim Value.none λf=>rawInt f))) k5 (Obj.isFreed_of_fields (Obj.data_mapFields k6 _));have other:∀b o,b≠T→s.heap.get? b=some o→(s.heap.update T (Obj.mapFields (·.setIfInBounds 3 (fr.elim Value.none λf=>rawInt f)))).get? b=some o:=λb o hb e=>(Heap.get?_update_other _ _ (Ne.symm hb)).trans e;refine q _ [T] (λb hb=>?_) ⟨λb o e _ hb=>other b o (λz=>hb (by simp[z])) e,λb o e hb=>⟨o.slots,other b o (λz=>hb (by simp[z])) e⟩⟩ ⟨F.lo,F.un,oe,vs,other a oe (Ne.symm k4) h1,h2,h3,h4,h5,T,_,_,k1,k2,k3,k4,self,Obj.data_mapFields k6 _,by simpa using k7⟩;obtain rfl:b=T:=by simpa using hb
 exact ⟨k2,k3,_,self⟩
theorem va {base:Heap} {gk env:Env} {outer:List Env} {L:Addr} {hadNext:Bool} {head:Value} {oe:Obj} {vs:Array Value} {Q:Unit→Shared→Prop}
  (hfr:A.frames=some (gk::outer)) (hl:s.heap.FunFrames base (gk::outer)) (hf0:gk.frame=some L) (hf:env.frame=some L) (lo:n≤a) (un:H a=none) (fresh:∀b,s.heap.objs.size≤b→H b=none)
  (h1:s.heap.get? a=some oe) (h2:oe.cls=cls) (h3:oe.dict=dx) (h4:oe.data=.fields vs) (h5:1 < vs.size)
  (q:∀h' ch,(∀b∈ch,n≤b∧H b=none∧∃o,h'.get? b=some o)→cq (frs (gk::outer)) ch s.heap h'→qh n H h' a cls dx→Q () { s with heap:=h' }):
  wpAny M A (do let f ←PySem.frameOf env;let pl ←entryPlaceOf L hadNext;let t ←EntryCells.newEntry head f .none (rawInt L) .none pl;setField (.ref a) 1 t) Q E s:=by
 have na:a∉frs (gk::outer):=λhm=>by
  obtain ⟨_,o,ho,hnf⟩:=hl.mem hm;rw[h1] at ho;cases ho
  exact hnf vs h4
 have e0:PySem.frameOf env=PySem.frameOf gk:=by unfold PySem.frameOf;rw[hf,hf0]
 rw[e0];refine wpAny_bind (wpAny_frameOf_fun hfr hl hf0 λg sl=>?_);refine wpAny_bind (wpAny_entryPlaceOf λpl hpl=>?_);unfold EntryCells.newEntry newFields;refine wpAny_bind (wpAny_newObj_type ?_ (hpl.sizeOk5 _ _ _ _ _));generalize ht:([head,Value.ref L,.none,rawInt L,.none]++(if pl.isEmpty then abd 6 Value.none else pl)).toArray=ts;have hts:3 < ts.size:=by rw[←ht];simp only[aae,aa4,aa8,abg] <;> omega
 have g1:g.get? a=some oe:=(sl.2.1 a na).trans h1;have sz:g.objs.size=s.heap.objs.size:=sl.1;have p1:(g.push { cls:=.type "traceback",dict:=none,data:=.fields ts }).get? a=some oe:=Heap.get?_push_of_some _ g1;refine wpAny_setField p1 h4 h5 ?_;have na2:g.objs.size≠a:=aby (Heap.lt_size g1);have d1:=Obj.data_mapFields h4 (·.setIfInBounds 1 (Value.ref g.objs.size));have u1:=Heap.get?_update_self (Obj.mapFields (·.setIfInBounds 1 (Value.ref g.objs.size))) p1 (Obj.isFreed_of_fields d1);have u2:((g.push { cls:=.type "traceback",dict:=none,data:=.fields ts }).update a (Obj.mapFields (·.setIfInBounds 1 (Value.ref g.objs.size)))).get? g.objs.size=some { cls:=.type "traceback",dict:=none,data:=.fields ts }:=
  (Heap.get?_update_other _ _ (Ne.symm na2)).trans (Heap.get?_push_size g rfl)
 have other:∀b o,b≠a→g.get? b=some o→((g.push { cls:=.type "traceback",dict:=none,data:=.fields ts }).update a (Obj.mapFields (·.setIfInBounds 1 (Value.ref g.objs.size)))).get? b=some o:=λb o hb e=>
  (Heap.get?_update_other _ _ (Ne.symm hb)).trans (Heap.get?_push_of_some _ e)
 refine q _ [a] (λb hb=>?_) ⟨λb o e hb hc=>other b o (λz=>hc (by simp[z])) ((sl.2.1 b hb).trans e),λb o e hc=>?_⟩ ⟨lo,un,_,_,u1,(Obj.cls_mapFields _ _).trans h2,(jd _ _).trans h3,d1,by simpa using h5,g.objs.size,_,_,by simp[h5],?_,?_,na2,u2,rfl,hts⟩
 ·obtain rfl:b=a:=by simpa using hb
  exact ⟨lo,un,_,u1⟩
 ·obtain ⟨sl',e'⟩:=sl.2.2 b o e;exact ⟨sl',other b _ (λz=>hc (by simp[z])) e'⟩
 ·exact aak lo (adb (Heap.lt_size g1))
 ·exact fresh _ (by rw[sz];exact aa3 _)
theorem cq.trans {fs c1 c2:List Addr} {h h1 h2:Heap} (x:cq fs c1 h h1) (y:cq fs c2 h1 h2):cq fs (c1++c2) h h2:=by
 refine ⟨λb o e hb hc=>y.keep b o (x.keep b o e hb λz=>hc (abl _ z)) hb λz=>hc (aai _ z),λb o e hc=>?_⟩;obtain ⟨s1,e1⟩:=x.slot b o e λz=>hc (abl _ z);obtain ⟨s2,e2⟩:=y.slot b _ e1 λz=>hc (aai _ z);exact ⟨s2,e2⟩
theorem Hm {base:Heap} {gk env:Env} {outer:List Env} {L:Addr} {Q:Unit→Shared→Prop}
  (hfr:A.frames=some (gk::outer)) (hl:s.heap.FunFrames base (gk::outer)) (hf0:gk.frame=some L) (hf:env.frame=some L) (fresh:∀b,s.heap.objs.size≤b→H b=none) (F:Fly n H s.heap a cls dx)
  (q:∀h' ch,(∀b∈ch,n≤b∧H b=none∧∃o,h'.get? b=some o)→cq (frs (gk::outer)) ch s.heap h'→qh n H h' a cls dx→Q () { s with heap:=h' }):wpAny M A (noteFrame (.ref a) env) Q E s:=by
 obtain ⟨oe,vs,h1,h2,h3,h4,h5,h6⟩:=F.ob;unfold noteFrame;simp only[hf];rcases h6 with h6 | ⟨T,oT,ts,k1,k2,k3,k4,k5,k6,k7⟩
 ·refine wpAny_bind (wpAny_field h1 h4 h6 ?_);rw[if_neg (by decide)];exact va hfr hl hf0 hf F.lo F.un fresh h1 h2 h3 h4 h5 q
 ·refine wpAny_bind (wpAny_field h1 h4 k1 ?_);rw[if_pos (show (Value.ref T !=Value.none)=true from by simp)];refine wpAny_bind (wpAny_field k5 k6 (x:=ts[3]) (by simp[k7]) ?_);by_cases hm:(ts[3]==rawInt L)=true
  ·rw[if_pos hm];exact wpAny_pure (q s.heap [] (λb hb=>by cases hb) .refl ⟨F.lo,F.un,oe,vs,h1,h2,h3,h4,h5,T,oT,ts,k1,k2,k3,k4,k5,k6,k7⟩)
  ·rw[if_neg hm];refine wpAny_bind (wpAny_setField k5 k6 k7 ?_);have self:=Heap.get?_update_self (Obj.mapFields (·.setIfInBounds 3 Value.none)) k5 (Obj.isFreed_of_fields (Obj.data_mapFields k6 _));have other:∀b o,b≠T→s.heap.get? b=some o→(s.heap.update T (Obj.mapFields (·.setIfInBounds 3 Value.none))).get? b=some o:=λb o hb e=>(Heap.get?_update_other _ _ (Ne.symm hb)).trans e;have nT:∀b o,s.heap.get? b=some o→(∀vs,o.data≠.fields vs)→b≠T:=λb o e d z=>by
    rw[z,k5] at e;cases e
    exact d ts k6
   have tu:cq (frs (gk::outer)) [T] s.heap (s.heap.update T (Obj.mapFields (·.setIfInBounds 3 Value.none))):=⟨λb o e _ hb=>other b o (λz=>hb (by simp[z])) e,λb o e hb=>⟨o.slots,other b o (λz=>hb (by simp[z])) e⟩⟩;refine va hfr (hl.of_keeps λb o e d=>⟨o,other b o (nT b o e d) e,rfl⟩) hf0 hf F.lo F.un (λb hb=>fresh b (by rw[show (s.heap.update T (Obj.mapFields (·.setIfInBounds 3 Value.none))).objs.size=s.heap.objs.size from Heap.size_after_update ..] at hb;exact hb)) (other a oe (Ne.symm k4) h1) h2 h3 h4 h5 λh' ch hc tn fl=>?_;refine q h' ([T]++ch) (λb hb=>?_) (tu.trans tn) fl;rcases List.mem_append.mp hb with hb | hb
   ·obtain rfl:b=T:=by simpa using hb
    refine ⟨k2,k3,?_⟩;by_cases hc2:b∈ch
    ·exact (hc b hc2).2.2
    ·obtain ⟨sl,e⟩:=tn.slot b _ self hc2;exact ⟨_,e⟩
   ·exact hc b hb
end
def Bnd (X:Cx) (pins:List (Addr×Obj)) (n:Nat):Prop:=X.s₀.heap.objs.size≤n∧X.env.locals < n∧(∀x c,X.env.cells.lookup x=some c→c < n)∧∀p∈X.pn++pins,p.1 < n
def XE (X:Cx) (E:XK):Value→Shared→Prop:=λe s'=>∃pins σ H n a cls dx,e=.ref a∧Inv X pins σ H s'∧Bnd X pins n∧Fly n H s'.heap a cls dx∧E cls dx H
noncomputable abbrev Cx.xp (X:Cx) (E:XK):Cx:=X.mh (XE X E)
def yh (X:Cx):Prop:=∃gk outer0 L,X.stack=gk::outer0∧gk.frame=some L∧X.env.frame=some L
noncomputable def CXE (P:Program) (w:World):CXT:=λouter H s E e s'=>∃H' a cls dx,e=.ref a∧s'.os=s.os∧AllBare s'.gens∧Un (frs outer) [] H H' s.heap s'.heap∧HOk P w H' s'.heap∧Fly s.heap.objs.size H' s'.heap a cls dx∧E cls dx H'
section
variable {X:Cx} {pins:List (Addr×Obj)} {σ:St} {H:Hp} {s:Shared} {n:Nat} {a:Addr} {cls:Value} {dx:Option Addr} {M:Model} {A:Around} {E':Value→Shared→Prop} {env:Env} {E:XK}
theorem Inv.bnd (I:Inv X pins σ H s):Bnd X pins s.heap.objs.size:=
 ⟨I.sz,I.lt,λx c e=>let ⟨_,z⟩:=I.cell x c e;z.lt,λp hp=>Heap.lt_size (I.pin p hp).1⟩
theorem Inv.turn {ch:List Addr} {h':Heap} (I:Inv X pins σ H s) (B:Bnd X pins n) (hc:∀b∈ch,n≤b∧H b=none∧∃o,h'.get? b=some o) (t:cq (frs X.stack) ch s.heap h'):Inv X pins σ H { s with heap:=h' }:=by
 refine I.call (g':=s.gens) (d':=s.drawn) (t':=s.toks) (t.un λb hb=>(hc b hb).2.2) (t.hok I.hok I.yf λb hb=>(hc b hb).2.1) I.bare λb hb=>?_;have lo:=(hc b hb).1;exact ⟨.inr (aak B.1 lo),aby (aah B.2.1 lo),λx c e=>aas (aah (B.2.2.1 x c e) lo),λp hp=>aas (aah (B.2.2.2 p hp) lo)⟩
theorem B3 {Q:Unit→Shared→Prop} (I:Inv X pins σ H s) (B:Bnd X pins n) (F:Fly n H s.heap a cls dx) (S:yh X) (hA:A.frames=X.A.frames) (hE:env.frame=X.env.frame)
  (q:∀h',Inv X pins σ H { s with heap:=h' }→qh n H h' a cls dx→Q () { s with heap:=h' }):wpAny M A (noteFrame (.ref a) env) Q E' s:=by
 obtain ⟨gk,outer0,L,hs,h0,h1⟩:=S;have fr:A.frames=some (gk::outer0):=by rw[hA,I.ok.frames,hs]
 have st:=I.stack;rw[hs] at st;refine Hm fr st h0 (hE.trans h1) (λb hb=>I.hok.fresh hb) F λh' ch hc t fl=>q h' (I.turn B hc ?_) fl;rw[hs];exact t
theorem gb {fr:Option Addr} {Q:Unit→Shared→Prop} (I:Inv X pins σ H s) (B:Bnd X pins n) (F:qh n H s.heap a cls dx)
  (q:∀h',Inv X pins σ H { s with heap:=h' }→qh n H h' a cls dx→Q () { s with heap:=h' }):wpAny M A (setFlight (.ref a) fr) Q E' s:=
 sg (fs:=frs X.stack) F λh' ch hc t fl=>q h' (I.turn B hc t) fl
theorem qh.head {h:Heap} (F:qh n H h a cls dx):∃oe vs T,h.get? a=some oe∧oe.data=.fields vs∧vs[1]?=some (.ref T):=
 let ⟨oe,vs,h1,_,_,h4,_,T,_,_,k1,_⟩:=F.ob;⟨oe,vs,T,h1,h4,k1⟩
theorem mn (S:yh X):PassesOwn (model X.prog X.w) X.A X.env (XE X E):=by
 rintro e s' ⟨pins,σ,H,n,a,cls,dx,rfl,I,B,F,q⟩;refine B3 I B F S rfl rfl λh' I' F'=>?_;obtain ⟨oe,vs,T,h1,h2,h3⟩:=F'.head;show wpAny _ _ _ _ _ _
 refine wpAny_bind (wpAny_field (s:={ s' with heap:=h' }) h1 h2 h3 ?_);rw[if_neg (show ¬((Value.ref T==Value.none)=true) from by simp)];exact gb I' B F' λh'' I'' F''=>⟨pins,σ,H,n,a,cls,dx,rfl,I'',B,F''.fly,q⟩
theorem My {e:Value} {R:Value→Shared→Prop} (S:yh X) (hx:X.ex=[]) (z:XE X E e s) (q:∀s',CXE X.prog X.w X.outer X.H₀ X.s₀ E e s'→R e s'):wpAny M X.A (leaving X.env e) (λ_ s'=>R e s') E' s:=by
 obtain ⟨pins,σ,H,n,a,cls,dx,rfl,I,B,F,qE⟩:=z;unfold leaving;refine wpAny_bind (B3 I B F S rfl rfl λh' I' F'=>?_);refine gb (s:={ s with heap:=h' }) I' B F' λh'' I'' F''=>q _ ?_;have u:=I''.base;rw[hx] at u;exact ⟨H,a,cls,dx,rfl,I''.os,I''.bare,u,I''.hok,F''.fly.le B.1,qE⟩
theorem passX:Passes (CXE X.prog X.w) (X.xp E) E:=by
 rintro pins σ H s e s' I ⟨H',a,cls,dx,rfl,os,bare,un,hok,F,q⟩;have I0:=I.cc;exact ⟨pins,σ,H',_,a,cls,dx,rfl,I0.Kd (ch:=[]) os un hok bare (λb z=>absurd z (by simp)),I0.bnd,F,q⟩
end
section
variable {P:Program} {w:World} {K:PySem.W.Frag} {mg:Str→Option Value} {base:Heap}
theorem qu {CX:CXT} {N:List Str} {qual:Str} {scope:Scope} {f:Addr} {cd:Value} {A:Around} {outer:List Env} {s:Shared} {H:Hp} {E:XK}:yh (kq CX P w K mg base N qual scope f cd A outer s H E):=⟨_,_,_,rfl,rfl,rfl⟩
theorem Fun.okX {x qual:Str} {st:Stmt} {f:Addr} {fd:FuncData} {N ps:List Str} {k:Nat} {sp:Sp} (F:Fun K x qual st f fd) (S:au N ps (af st)) (len:∀vs H Q E,sp vs H Q E→vs.length=ps.length)
  (hbody:∀(cdv:Value) (A:Around) (outer:List Env) (s:Shared) (H:Hp) (vs:List V) (Q:VK) (E:XK),cv k (A.deeper (envOfC qual (af st) s.heap.objs.size f cdv))→sp vs H Q E→
   ∃t,PSs ((kq (CXE P w) P w K mg base N qual (af st) f cdv A outer s H E).xp E) (ar st) t∧t { nx:=λ_ H'=>Q .non H',rt:=Q } (start N vs) H):h9 P w K mg base (CXE P w) (k+1) f fd ps sp:=by
 obtain ⟨oc,od,kV,doc,pm,an,cdv,ct,osl,rfl,lk,hcd⟩:=F.ex;refine fn_of lk hcd S len λA outer s H vs Q E hr hsp=>?_;obtain ⟨t,h,q⟩:=hbody cdv A outer s H vs Q E hr hsp;refine ⟨t,λpins s' σ H' D I hw=>wpAny_mono (h pins s' σ H' D (I.mh _) hw) (λ_ _ q=>q.cc) λe s'' z=>?_,q⟩;exact My qu rfl z λ_ y=>y
def i6 (P:Program) (w:World) (K:PySem.W.Frag) (mg:Str→Option Value) (base:Heap) (k:Nat) (x:Str) (ps:List Str) (sp:Sp):Prop:=
 ∃(f:Addr) (fd:FuncData),h9 P w K mg base (CXE P w) k f fd ps sp∧Binds K fd ps []∧PySem.W.keepIn K (.ref f)=true∧mg x=some (.ref f)
theorem i6.up {j k:Nat} {x:Str} {ps:List Str} {sp:Sp} (h:i6 P w K mg base j x ps sp) (l:j≤k):i6 P w K mg base k x ps sp:=by
 obtain ⟨f,fd,F,r⟩:=h;exact ⟨f,fd,F.mono l,r⟩
theorem Def.hasX {k:Nat} {x:Str} {st:Stmt} {N ps:List Str} {sp:Sp} (D:Def K mg x st ps) (S:au N ps (af st)) (len:∀vs H Q E,sp vs H Q E→vs.length=ps.length)
  (hbody:∀(f:Addr) (cdv:Value) (A:Around) (outer:List Env) (s:Shared) (H:Hp) (vs:List V) (Q:VK) (E:XK),cv k (A.deeper (envOfC x (af st) s.heap.objs.size f cdv))→sp vs H Q E→
   ∃t,PSs ((kq (CXE P w) P w K mg base N x (af st) f cdv A outer s H E).xp E) (ar st) t∧t { nx:=λ_ H'=>Q .non H',rt:=Q } (start N vs) H):i6 P w K mg base (k+1) x ps sp:=by
 obtain ⟨f,fd,F,b,m⟩:=D;exact ⟨f,fd,F.okX S len λcdv A outer s H vs Q E hr h=>hbody f cdv A outer s H vs Q E hr h,b,F.kp,m⟩
end
section
variable {X:Cx} {E:XK} {k:Nat} {ps:List Str} {sp:Sp} {x:Str} {p pos:Pos} {e:Expr} {es:List Expr} {t:TA}
theorem E2 (h:i6 X.prog X.w X.K X.mg X.base k x ps sp) (hr:cv k X.A) (ha:PA (X.xp E) (e::es) t) (hg:Gl X x:=by rfl) (hdb:(x==("__debug__":Str))=false:=by decide+kernel)
  (he:starEach (e::es) X.env=(false,eval e X.env)::starEach es X.env:=by rfl) (hpl:(backTo pos (starEach es X.env)).any (·.1)=false:=by rfl):
  PE (X.xp E) (.Call (.Name x p) (e::es) [] pos) (zo sp [] E t):=by
 obtain ⟨f,fd,F,b,kp,m⟩:=h;exact xt (X:=X.xp E) F hr hg m kp b .nil passX ha hdb he hpl
end
end L2
namespace PySem
open Sem (wp)
structure Xc (K:W.Frag) (C:Addr) (bm:List Value):Prop where
 lk:∃nm q N bs sn sub ab col dd k0 k1 k2 k3 k5,K.lookup C=some (excClassObj nm q C N bs bm true sn sub ab col dd k0 k1 k2 k3 k5 "ValueError.__new__")
 hv:bm.contains (.type "ValueError")=true
 hb:bm.contains (.type "BaseException")=true
 ha:bm.contains (.type "AttributeError")=false
 hn:bm.contains (.type "NameError")=false
 ho:bm.contains (.type "object")=true
 kp:W.keepIn K (.ref C)=true
 sa:∀self:Value,refuseLoop self "__setattr__" bm=pure ()
 fs:W.findIn K (.ref C) "__setattr__"=some (some (.builtin "object.__setattr__"))
 fg:W.findIn K (.ref C) "__getattribute__"=some (some (.builtin "BaseException.__getattribute__"))
 fh:W.findIn K (.ref C) "__getattr__"=some none
 fc:W.findIn K (.ref C) "__class__"=some (some (.builtin "object.__class__"))
section
variable {prog:Program} {w:World} {A:Around} {E:Value→Shared→Prop} {K:W.Frag} {C:Addr} {bm rest:List Value} {init:Value}
theorem Hx {h:Heap} {g:Array GenState} {d:Drawn} {t:Nat} {os:OsState} {R:Result→Shared→Prop} (X:K.In h) (c:Xc K C bm) (hl:rest.length≤sizeLine)
  (q:R (.ok (.ret (.ref (h.objs.size+1)))) ⟨(h.push { cls:=.type "tuple",data:=.seq rest.toArray }).push { cls:=.ref C,data:=.fields #[.ref h.objs.size,.none,.none,.none,.bool false,.none] },g,d,t,os⟩):
  codeAny (model prog w) A (.builtin "ValueError.__new__" ⟨.ref C::rest,[]⟩) R ⟨h,g,d,t,os⟩:=by
 obtain ⟨nm,qn,N,bs,sn,sub,ab,col,dd,k0,k1,k2,k3,k5,lk⟩:=c.lk;have hC:=X _ _ lk;have Fv:=PySem.F.excBase_ValueError;have hends:=Fv.ends;have z1:(Value.ref C::bm).contains (.type "ValueError")=true:=by rw[ab2,c.hv,ab4]
 have z2:(Value.ref C::bm).contains (.type "AttributeError")=false:=by rw[ab2,c.ha];rfl
 have z3:(Value.ref C::bm).contains (.type "NameError")=false:=by rw[ab2,c.hn];rfl
 refine codeAny_builtinAt Fv.entry ?_;unfold Builtin.«BaseException.__new__»;refine wpAt_bind ?_;show wpAt _ _ _ (stack >>=_) _ _ _
 refine wpAt_bind (wpAt_stack λp below=>wpAt_of_wpAny ?_);wp_walk
 refine wpAt_of_wpAny ?_;rw[Fv.owner];repeat (first | with_reducible refine wpAny_madeHere_exc Fv.canon hC ?_ | with_reducible refine wpAny_loadPart_at hC ?_ | (with_reducible refine wpAny_isSubtype_exc hC ?_;first | rw[z1] | rw[z2] | rw[z3]) | wp_step)
 show R _ _
 rw[Heap.size_push];exact q
theorem Au {h:Heap} {g:Array GenState} {d:Drawn} {t:Nat} {os:OsState} {Q:Fin→Shared→Prop} (X:K.In h) (c:Xc K C bm) (hi:W.findIn K (.ref C) "__init__"=some (some init))
  (hb:∀self,W.Looks (model prog w) h (bindSpecial init self) (init,[self])) (hl:rest.length≤sizeLine)
  (q:wpAny (model prog w) A (call init (.ref (h.objs.size+1)::rest)) (λr s'=>r=.none∧Q (.done (.ret (.ref (h.objs.size+1)))) s') E
   ⟨(h.push { cls:=.type "tuple",data:=.seq rest.toArray }).push { cls:=.ref C,data:=.fields #[.ref h.objs.size,.none,.none,.none,.bool false,.none] },g,d,t,os⟩):
  wpAny (model prog w) A (Builtin.«type.__call__» ⟨.ref C::rest,[]⟩) Q E ⟨h,g,d,t,os⟩:=by
 obtain ⟨nm,qn,N,bs,sn,sub,ab,col,dd,k0,k1,k2,k3,k5,lk⟩:=c.lk;have hC:=X _ _ lk;have Fv:=PySem.F.excBase_ValueError;repeat (first | with_reducible refine wpAny_loadPart_at hC ?_ | with_reducible refine wpAny_madeBy_exc hC ?_ | wp_step)
 refine codeAny_call_builtin_code (Code.quiet_builtin _ Fv.quiet) (wpAny_check_new_subU Fv c.hv .base hC ?_);refine Hx X c hl ?_;show wpAny _ _ _ _ _ _
 have kk:∀b o,h.get? b=some o→((h.push { cls:=.type "tuple",data:=.seq rest.toArray }).push { cls:=.ref C,data:=.fields #[.ref h.objs.size,.none,.none,.none,.bool false,.none] }).get? b=some o:=
  λb o e=>Heap.get?_push_of_some _ (Heap.get?_push_of_some _ e)
 have hC2:=kk _ _ hC;have he:((h.push { cls:=.type "tuple",data:=.seq rest.toArray }).push { cls:=.ref C,data:=.fields #[.ref h.objs.size,.none,.none,.none,.bool false,.none] }).get? (h.objs.size+1)=some
   { cls:=.ref C,data:=.fields #[.ref h.objs.size,.none,.none,.none,.bool false,.none] }:=by heap_get
 have z4:(Value.ref C::bm).contains (.ref C)=true:=by simp
 unfold isInstance;repeat (first | with_reducible refine wpAny_loadPart_at he ?_ | (with_reducible refine wpAny_isSubtype_exc hC2 ?_;rw[z4]) | wp_step)
 show wpAny _ _ (typeLookup (.ref C) _) _ _ _
 refine ((W.looks_findIn X hi).keeps kk).here ?_;refine wpAny_holding (wpAny_bind (((hb _).keeps kk).here ?_));refine wpAny_bind (wpAny_mono q (λr s' hr=>?_) λ_ _ z=>z);obtain ⟨rfl,hQ⟩:=hr;wp_walk
 exact hQ
theorem Jl {s:Shared} {Q:Value→Shared→Prop} (X:K.In s.heap) (c:Xc K C bm) (hi:W.findIn K (.ref C) "__init__"=some (some init)) (hb:∀self,W.Looks (model prog w) s.heap (bindSpecial init self) (init,[self]))
  (hl:rest.length≤sizeLine)
  (q:wpAny (model prog w) (A.under (.builtin "type.__call__" ⟨.ref C::rest,[]⟩)) (call init (.ref (s.heap.objs.size+1)::rest)) (λr s'=>r=.none∧Q (.ref (s.heap.objs.size+1)) s') E
   { s with heap:=(s.heap.push { cls:=.type "tuple",data:=.seq rest.toArray }).push { cls:=.ref C,data:=.fields #[.ref s.heap.objs.size,.none,.none,.none,.bool false,.none] } }):
  wpAny (model prog w) A (call (.ref C) rest) Q E s:=by
 obtain ⟨h,g,d,t,os⟩:=s;obtain ⟨nm,qn,N,bs,sn,sub,ab,col,dd,k0,k1,k2,k3,k5,lk⟩:=c.lk;have hC:=X _ _ lk;dsimp only at hC q;have g1:=tc_lookup;have g2:=tc_bind (.ref C);have g3:(⟨h,g,d,t,os⟩:Shared).TypeIs (.ref C) "type":=⟨_,hC,rfl⟩;refine wpAny_call (codeAny_of_tree ?_);show wpAny _ _ (callAny (.ref C) _) _ _ _
 repeat (any_goals (first | assumption | with_reducible refine wpAny_loadPart_at hC ?_ | wp_step))
 refine ⟨rfl,?_⟩;refine codeAny_call_builtin_at (Code.quiet_builtin _ (by decide+kernel)) entry_typeCall (wpAny_check_type_call_sub hC (Au X c hi hb hl ?_));exact q
end
end PySem
namespace L2
open PySem PySem.Spec PyProof.Rows
noncomputable def XO (a C:Addr) (dx:Option Addr) (nw:Bool):HO:=.ext λh=>∃o vs,h.get? a=some o∧o.cls=.ref C∧o.dict=dx∧o.data=.fields vs∧(nw=true→∃t,vs=#[.ref t,.none,.none,.none,.bool false,.none])
noncomputable def XD (dx:Addr) (fs:List (Str×V)):HO:=.ext λh=>∃mA,h.Ns1 dx mA∧(∀f,dq (fs.lookup f) (mA f))∧PySem.Within mA (fs.map (·.1))
theorem XO.mk {P:Program} {w:World} {H:Hp} {h:Heap} {a C:Addr} {dx:Option Addr} {nw:Bool} (e:∃o vs,h.get? a=some o∧o.cls=.ref C∧o.dict=dx∧o.data=.fields vs∧(nw=true→∃t,vs=#[.ref t,.none,.none,.none,.bool false,.none])):b4 P w H h a (XO a C dx nw):=by
 refine ⟨e,?_,?_⟩
 ·obtain ⟨o,_,q,_⟩:=e;exact ⟨o,q⟩
 ·rintro h1 h2 ⟨o,vs,q,r⟩ k;exact ⟨o,vs,k o q,r⟩
theorem XD.mk {P:Program} {w:World} {H:Hp} {h:Heap} {dx:Addr} {fs:List (Str×V)} (e:∃mA,h.Ns1 dx mA∧(∀f,dq (fs.lookup f) (mA f))∧PySem.Within mA (fs.map (·.1))):b4 P w H h dx (XD dx fs):=by
 refine ⟨e,?_,?_⟩
 ·obtain ⟨_,⟨o,_,_,q,_⟩,_⟩:=e;exact ⟨o,q⟩
 ·rintro h1 h2 ⟨mA,⟨o,es,ep,q,r⟩,z⟩ k;exact ⟨mA,⟨o,es,ep,k o q,r⟩,z⟩
theorem XO.get {P:Program} {w:World} {H:Hp} {h:Heap} {a C:Addr} {dx:Option Addr} {nw:Bool} (x:HOk P w H h) (e:H a=some (XO a C dx nw)):∃o vs,h.get? a=some o∧o.cls=.ref C∧o.dict=dx∧o.data=.fields vs∧(nw=true→∃t,vs=#[.ref t,.none,.none,.none,.bool false,.none]):=(x a _ e).1
theorem XD.get {P:Program} {w:World} {H:Hp} {h:Heap} {dx:Addr} {fs:List (Str×V)} (x:HOk P w H h) (e:H dx=some (XD dx fs)):∃mA,h.Ns1 dx mA∧(∀f,dq (fs.lookup f) (mA f))∧PySem.Within mA (fs.map (·.1)):=(x dx _ e).1
end L2
namespace PySem
open Sem (wp)
open Builtin Builtin.ObjectAttr
section
variable {prog:Program} {w:World} {A:Around} {E:Value→Shared→Prop} {K:W.Frag} {C x:Addr} {bm rest:List Value} {h:Heap} {g:Array GenState} {d:Drawn} {t:Nat} {os:OsState} {o:Obj} {vs:Array Value}
theorem Ga {R:Result→Shared→Prop} (X:K.In h) (c:Xc K C bm) (hx:h.get? x=some o) (hc:o.cls=.ref C) {t0:Addr} (hd:o.data=.fields #[.ref t0,.none,.none,.none,.bool false,.none]) (hl:rest.length≤sizeLine)
  (q:R (.ok (.ret .none)) ⟨(h.push { cls:=.type "tuple",data:=.seq rest.toArray }).update x (Obj.mapFields (·.setIfInBounds 0 (.ref h.objs.size))),g,d,t,os⟩):
  codeAny (model prog w) A (.call (.builtin "ValueError.__init__") ⟨.ref x::rest,[]⟩) R ⟨h,g,d,t,os⟩:=by
 obtain ⟨nm,qn,N,bs,sn,sub,ab,col,dd,k0,k1,k2,k3,k5,lk⟩:=c.lk;have hC:=X _ _ lk;have Fv:=PySem.F.excBase_ValueError;have z1:(Value.ref C::bm).contains (.type "ValueError")=true:=by rw[ab2,c.hv,ab4]
 have short:=Fv.noStar;refine codeAny_call_builtin Fv.init.plain Fv.initEntry ?_;simp only[checkBuiltinCall,Fv.initKind,Fv.initSplit,Fv.initRow];repeat (first | (with_reducible refine wpAny_loadPart_at hx ?_;rw[hc]) | with_reducible refine wpAny_loadPart_at hC ?_ | (with_reducible refine wpAny_isSubtype_exc hC ?_;rw[z1]) | wp_step)
 refine wpAny_onRaise ?_;rw[show ∀(a b:String) (n:Nat),Bind.check ⟨.positional,"*","ValueError",.self,[⟨"args",.varPos,false⟩]⟩ a b n (adu (λy=>y.fst) ({ pos:=Value.ref x::rest }:Args).kw)=pure () from λa b n=>check_star_args _ _ _ _ _ _];refine wpAny_pure ?_;unfold Builtin.«BaseException.__init__»;have hx2:(h.push { cls:=.type "tuple",data:=.seq rest.toArray }).get? x=some o:=Heap.get?_push_of_some _ hx;have hz:0 < (#[.ref t0,.none,.none,.none,.bool false,.none]:Array Value).size:=by show 0 < 6;decide
 have hz1:(#[.ref t0,.none,.none,.none,.bool false,.none]:Array Value)[0]?=some (.ref t0):=rfl;repeat (first | with_reducible refine wpAny_field hx2 hd hz1 ?_ | with_reducible refine wpAny_setField hx2 hd hz ?_ | wp_step)
 all_goals first | exact q | skip
theorem pk {M:Model} (hx:h.get? x=some o) (hc:o.cls=.ref C):W.Looks M h (typeOf (.ref x)) (.ref C):=hc ▸ (W.Looks.ld hx).andThen .now
theorem xmro {M:Model} (X:K.In h) (c:Xc K C bm):W.Looks M h (mroOf (.ref C)) (.ref C::bm):=by
 obtain ⟨nm,qn,N,bs,sn,sub,ab,col,dd,k0,k1,k2,k3,k5,lk⟩:=c.lk;exact ((W.Looks.ld (part:=none) (X _ _ lk)).andThen .now).andThen .now
theorem xsub {M:Model} (X:K.In h) (c:Xc K C bm) (b:Value):W.Looks M h (isSubtype (.ref C) b) ((Value.ref C::bm).contains b):=by
 obtain ⟨nm,qn,N,bs,sn,sub,ab,col,dd,k0,k1,k2,k3,k5,lk⟩:=c.lk;intro A' Q' E' s' k' q';obtain ⟨h2,g2,d2,t2,o2⟩:=s';exact wpAny_isSubtype_exc (k' _ _ (X _ _ lk)) q'
theorem Kw {M:Model} (X:K.In h) (c:Xc K C bm) (hx:h.get? x=some o) (hc:o.cls=.ref C) (b:Value):W.Looks M h (isInstance (.ref x) b) ((Value.ref C::bm).contains b):=(pk hx hc).andThen (xsub X c b)
theorem W.cy {cd:ClassData} {oc:Value} {od:Option Addr} {sl:Array (Option Value)} (lk:K.lookup C=some ⟨oc,od,.cls cd,sl⟩):W.clsIn K C=some cd:=by
 unfold W.clsIn;rw[lk]
theorem u5 {name:Str} {v:Value} {tk:Tok} {R:Result→Shared→Prop} (X:K.In h) (c:Xc K C bm) (hna:W.findIn K (.ref C) name=some none) (hx:h.get? x=some o) (hc:o.cls=.ref C)
  (q:wpAny (model prog w) A.in1 (instanceDict x true >>=λr=>match r with | some dd=>storeInDict dd (.str name tk) name v | none=>noDictFor (.ref x) (.ref C) name false)
   (λfin s'=>match fin with | .done f=>R (.ok f) s' | .again c'=>c'.quiet=true∧codeAny (model prog w) A c' R s') (λe s'=>R (.error e) s') ⟨h,g,d,t,os⟩):
  codeAny (model prog w) A (.call (.builtin "object.__setattr__") ⟨[.ref x,.str name tk,v],[]⟩) R ⟨h,g,d,t,os⟩:=by
 have SF:=PySem.F.store_ValueError;have z1:(Value.ref C::bm).contains (.type "object")=true:=by rw[ab2,c.ho,ab4]
 have I:W.Looks (model prog w) h (isInstance (.ref x) (.type "object")) true:=z1 ▸ Kw X c hx hc (.type "object");refine codeAny_call_builtin SF.slot.plain SF.entry (@W.check_slot (model prog w) _ _ ⟨h,g,d,t,os⟩ "object.__setattr__" "object" "__setattr__" (.ref x) [.str name tk,v] [] _ SF.kind SF.split I (SF.args (.ref x) (.str name tk) v) ?_);rw[W.osa_eq,refuse_eq];refine wpAny_bind (wpAny_bind ((pk hx hc).here (wpAny_bind ((xmro X c).here ?_))));rw[refuseLoop_ref,c.sa];refine wpAny_pure (wpAny_bind ((pk hx hc).here (wpAny_bind ((W.looks_findIn X hna).here (wpAny_bind (wpAny_pure ?_))))));exact wpAny_bind (wpAny_pure q)
theorem J4 {name:Str} {v:Value} {tk:Tok} {R:Result→Shared→Prop} (X:K.In h) (c:Xc K C bm) (hna:W.findIn K (.ref C) name=some none) (hx:h.get? x=some o) (hc:o.cls=.ref C) (hd:o.data=.fields vs) (hdn:o.dict=none)
  (q:∀h' tk',h'.Ns1 h.objs.size (λy=>if y=name then some v else none)→h'.get? x=some { o with dict:=some h.objs.size }→(∀b u,b≠x→h.get? b=some u→h'.get? b=some u)→R (.ok (.ret .none)) ⟨h',g,d,tk',os⟩):
  codeAny (model prog w) A (.call (.builtin "object.__setattr__") ⟨[.ref x,.str name tk,v],[]⟩) R ⟨h,g,d,t,os⟩:=by
 refine u5 X c hna hx hc ?_;obtain ⟨nm,qn,N,bs,sn,sub,ab,col,dd,k0,k1,k2,k3,k5,lk⟩:=c.lk;have hC:=X _ _ lk;have hx1:(h.push { cls:=.type "dict",data:=.dict #[] }).get? x=some o:=Heap.get?_push_of_some _ hx;have ne:x≠h.objs.size:=aas (Heap.lt_size hx);have hfr:=(Heap.get?_some_iff.mp hx).2;obtain ⟨oc,od,odt,osl⟩:=o;obtain rfl:oc=.ref C:=hc;obtain rfl:odt=.fields vs:=hd;obtain rfl:od=none:=hdn;refine wpAny_bind (wpAny_bind (wpAny_loadPart hx ?_));dsimp only;refine wpAny_bind ((W.looks_clsIn X (W.cy lk)).here ?_);dsimp only;rw[if_neg (by decide)];refine wpAny_bind (wpAny_alloc' ?_);refine wpAny_bind (wpAny_update' hx1 ?_);refine wpAny_pure ?_;have gd:((h.push { cls:=.type "dict",data:=.dict #[] }).update x λo=>{ cls:=o.cls,dict:=some h.objs.size,data:=o.data,slots:=o.slots }).get? h.objs.size=some { cls:=.type "dict",data:=.dict #[] }:=
  (Heap.get?_update_ne _ _ _ _ ne.symm).trans (Heap.get?_push_at rfl rfl)
 have nd:((h.push { cls:=.type "dict",data:=.dict #[] }).update x λo=>{ cls:=o.cls,dict:=some h.objs.size,data:=o.data,slots:=o.slots }).Ns h.objs.size (λ_=>none):=
  ⟨_,#[],_,gd,rfl,λe he=>absurd he (by simp),λ_=>rfl⟩
 show wpAny _ _ (storeInDict h.objs.size (.str name tk) name v) _ _ _
 unfold storeInDict newKeyGuard;refine wpAny_bind (wpAny_pure (wpAny_bind (wpAny_nsSet1 (Heap.Ns1.of_empty nd) λh' hn' hs=>?_)));obtain ⟨oD,esD,epD,hoD,hdD,hcD⟩:=hn'.count (Within.cons name v Within.nil);refine wpAny_bind (wpAny_lookBehind hoD (by rw[hdD];exact pastItsLine_dict (aak hcD (by rw[aa8,abg,sizeLine_eq];omega))) ?_);refine wpAny_pure (q h' _ hn' ?_ λb ob hbx hb=>?_)
 ·exact (hs.2 x ne).trans (Heap.get?_update_self _ hx1 hfr)
 ·exact (hs.2 b (aas (Heap.lt_size hb))).trans ((Heap.get?_update_ne _ _ _ _ hbx).trans (Heap.get?_push_of_some _ hb))
theorem Ko {name:Str} {v:Value} {tk:Tok} {dx:Addr} {mA:Str→Option Value} {ns:List Str} {R:Result→Shared→Prop} (X:K.In h) (c:Xc K C bm) (hna:W.findIn K (.ref C) name=some none) (hx:h.get? x=some o) (hc:o.cls=.ref C) (hdn:o.dict=some dx)
  (hns:h.Ns1 dx mA) (hw:Within mA ns) (hsz:ns.length < sizeLine)
  (q:∀h' tk',h'.Ns1 dx (λy=>if y=name then some v else mA y)→Heap.SameBut dx h h'→R (.ok (.ret .none)) ⟨h',g,d,tk',os⟩):
  codeAny (model prog w) A (.call (.builtin "object.__setattr__") ⟨[.ref x,.str name tk,v],[]⟩) R ⟨h,g,d,t,os⟩:=by
 refine u5 X c hna hx hc ?_;obtain ⟨nm,qn,N,bs,sn,sub,ab,col,dd,k0,k1,k2,k3,k5,lk⟩:=c.lk;have hC:=X _ _ lk;obtain ⟨oc,od,odt,osl⟩:=o;obtain rfl:oc=.ref C:=hc;obtain rfl:od=some dx:=hdn;refine wpAny_bind (wpAny_bind (wpAny_loadPart hx ?_));dsimp only;refine wpAny_bind ((W.looks_clsIn X (W.cy lk)).here ?_);dsimp only;refine wpAny_pure ?_;show wpAny _ _ (storeInDict dx (.str name tk) name v) _ _ _
 unfold storeInDict newKeyGuard;refine wpAny_bind (wpAny_pure (wpAny_bind (wpAny_nsSet1 hns λh' hn' hs=>?_)));obtain ⟨oD,esD,epD,hoD,hdD,hcD⟩:=hn'.count (Within.cons name v hw);refine wpAny_bind (wpAny_lookBehind hoD (by rw[hdD];exact pastItsLine_dict (aak hcD (by rw[aa8];omega))) ?_);exact wpAny_pure (q h' _ hn' hs)
theorem uj {name:Str} {v:Value} {Q:Unit→Shared→Prop} (X:K.In h) (c:Xc K C bm) (hx:h.get? x=some o) (hc:o.cls=.ref C)
  (q:∀tk t',codeAny (model prog w) A (.call (.builtin "object.__setattr__") ⟨[.ref x,.str name tk,v],[]⟩) (λr s'=>match r with | .ok (.ret _)=>Q () s' | .ok _=>False | .error e=>E e s') ⟨h,g,d,t',os⟩):
  wpAny (model prog w) A (setAttr (.ref x) name v) Q E ⟨h,g,d,t,os⟩:=by
 have f3:=PySem.F.store_ValueError.slot.bind (.ref x);unfold setAttr callSpecial? specialOf;refine wpAny_bind (wpAny_mkText (wpAny_bind (wpAny_bind (wpAny_bind ((W.Looks.here (s:=⟨h,g,d,t+1,os⟩) (pk hx hc) ((W.Looks.here (s:=⟨h,g,d,t+1,os⟩) (W.looks_findIn X c.fs) ?_))))))));refine wpAny_holding ?_;rw[f3];refine wpAny_bind (wpAny_pure (wpAny_bind (wpAny_call (codeAny_mono (q _ _) λr s' z=>?_))));cases r with
 | error e=>exact z
 | ok f=>
  cases f with
  | ret u=>exact wpAny_pure (wpAny_pure z)
  | next=>exact False.elim z
  | brk=>exact False.elim z
  | cont=>exact False.elim z
theorem Fl {name:Str} {v:Value} {dx:Addr} {mA:Str→Option Value} {expr:Bool} {Q:Value→Shared→Prop} (X:K.In h) (c:Xc K C bm) (hna:W.findIn K (.ref C) name=some none) (hx:h.get? x=some o) (hc:o.cls=.ref C) (hd:o.data=.fields vs)
  (hdn:o.dict=some dx) (hn:h.Ns dx mA) (hv:mA name=some v) (hh:W.handedIn v=true) (q:Q v ⟨h,g,d,t+1,os⟩):
  wpAny (model prog w) A (getAttr (.ref x) name expr) Q E ⟨h,g,d,t,os⟩:=by
 obtain ⟨nm,qn,N,bs,sn,sub,ab,col,dd,k0,k1,k2,k3,k5,lk⟩:=c.lk;have hC:=X _ _ lk;have z1:(Value.ref C::bm).contains (.type "BaseException")=true:=by rw[ab2,c.hb,ab4]
 have I:W.Looks (model prog w) h (isInstance (.ref x) (.type "BaseException")) true:=z1 ▸ Kw X c hx hc (.type "BaseException");have z2:(Value.builtin "BaseException.__getattribute__"==Value.builtin "object.__getattribute__")=false:=by decide+kernel
 obtain ⟨oc,od,odt,osl⟩:=o;obtain rfl:oc=.ref C:=hc;obtain rfl:odt=.fields vs:=hd;obtain rfl:od=some dx:=hdn;unfold getAttr getAttrBy;refine wpAny_bind (wpAny_mkText (wpAny_holding (wpAny_bind (W.Looks.here (s:=⟨h,g,d,t+1,os⟩) (pk hx rfl) (wpAny_bind (W.Looks.here (s:=⟨h,g,d,t+1,os⟩) (W.looks_findIn X c.fg) ?_))))));dsimp only;rw[z2,aal,if_neg (by decide)];unfold getAttrByItsOwn hookBefore;refine wpAny_bind ((W.Looks.here (s:=⟨h,g,d,t+1,os⟩) (W.looks_findIn X c.fh) ?_));refine wpAny_bind (wpAny_attempt (wpAny_holding ?_));unfold callGetattribute boundAndCalled;rw[if_neg (by cases expr <;> decide),PySem.F.attr_ValueError.ga.bind (.ref x)];refine wpAny_bind (wpAny_pure (wpAny_call (codeAny_call_builtin PySem.F.attr_ValueError.ga.plain PySem.F.entry_bexc_ga
  (@W.check_slot (model prog w) _ _ ⟨h,g,d,t+1,os⟩ "BaseException.__getattribute__" "BaseException" "__getattribute__" (.ref x) [.str name t] [] _ (by decide+kernel) (by decide+kernel) I (PySem.F.args_bexc_ga (.ref x) (.str name t)) ?_))))
 unfold Builtin.«object.__getattribute__»;refine wpAny_bind (wpAny_pure ?_);dsimp only;refine wpAny_bind (wpAny_pure (wpAny_bind (W.Looks.here (s:=⟨h,g,d,t+1,os⟩) (pk hx rfl) ?_)));unfold find;refine wpAny_bind (wpAny_bind (W.Looks.here (s:=⟨h,g,d,t+1,os⟩) (W.looks_findIn X hna) (wpAny_bind (wpAny_pure (wpAny_bind (wpAny_pure ?_))))));dsimp only;unfold ownThenClass inOwnDict ownDict instanceDict;refine wpAny_bind (wpAny_bind (wpAny_bind (wpAny_bind (wpAny_loadPart hx ?_))));refine wpAny_pure ?_;dsimp only;refine wpAny_bind (wpAny_loadPart (s:=⟨h,g,d,t+1,os⟩) hx ?_);dsimp only;refine wpAny_bind (W.Looks.here (s:=⟨h,g,d,t+1,os⟩) (W.looks_clsIn X (W.cy lk)) ?_);dsimp only;refine wpAny_pure (wpAny_nsGet hn ?_);rw[hv];dsimp only;refine wpAny_bind (wpAny_rule (wpAny_pure (wpAny_pure ?_)));show wpAny _ _ (handedOut v) _ _ _
 rw[W.handedOut_of hh];exact wpAny_pure q
theorem xraise {env:Env} {s:Shared} {m:Sem Value} {Q:Flow→Shared→Prop} (hh:A.handled=none)
  (q:wpAny (model prog w) A m (λv s₁=>∃e o vs C bm,v=.ref e∧K.In s₁.heap∧Xc K C bm∧s₁.heap.get? e=some o∧o.cls=.ref C∧o.data=.fields vs∧vs[1]?=some .none∧E (.ref e) s₁) E s):
  wpAny (model prog w) A (raiseStmt env (some m) none) Q E s:=by
 unfold raiseStmt;refine wpAny_bind (wpAny_mono q (λv s₁ h₁=>?_) λ_ _ x=>x);obtain ⟨e,o,vs,C,bm,rfl,X,c,he,hc,hd,h1,hE⟩:=h₁;obtain ⟨nm,qn,N,bs,sn,sub,ab,col,dd,k0,k1,k2,k3,k5,lk⟩:=c.lk;have hC:=X _ _ lk;have z1:(Value.ref C::bm).contains (.type "BaseException")=true:=by rw[ab2,c.hb,ab4]
 obtain ⟨hp,g,d,tk,os⟩:=s₁;obtain ⟨oc,od,odt,osl⟩:=o;obtain rfl:oc=.ref C:=hc;obtain rfl:odt=.fields vs:=hd;dsimp only at X he hC hE;repeat (first | with_reducible refine wpAny_loadPart_at he ?_ | with_reducible refine wpAny_loadPart_at hC ?_ | (with_reducible refine wpAny_isSubtype_exc hC ?_;rw[z1]) | wp_step)
 rw[h1];refine wpAny_pure ?_;rw[if_neg (by decide)];exact wpAny_pure (wpAny_raiseNew_none hh hE)
theorem xmatch {s:Shared} {bC:List Value} {D:Addr} {Q:Bool→Shared→Prop} (X:K.In s.heap) (c:Xc K C bm) (cD:Xc K D bC) (hx:s.heap.get? x=some o) (hc:o.cls=.ref C) (q:Q ((Value.ref C::bm).contains (.ref D)) s):
  wpAny (model prog w) A (excMatches (.ref x) (.ref D)) Q E s:=by
 obtain ⟨nm,qn,N,bs,sn,sub,ab,col,dd,k0,k1,k2,k3,k5,lk⟩:=cD.lk;have hD:=X _ _ lk;have z1:(Value.ref D::bC).contains (.type "BaseException")=true:=by rw[ab2,cD.hb,ab4]
 have f:=tc_notTuple;obtain ⟨hp,g,d,tk,os⟩:=s;dsimp only at X hx hD q;have lx:=pk (M:=model prog w) hx hc;have ls:=xsub (M:=model prog w) X c (.ref D);unfold excMatches;repeat (first | with_reducible refine wpAny_loadPart_at hD ?_ | (with_reducible refine wpAny_isSubtype_exc hD ?_;rw[z1]) | (with_reducible refine wpAny_loadPart_at hx ?_;rw[hc]) | wp_step)
 refine ls.here ?_;cases hb:(Value.ref C::bm).contains (.ref D) with
 | true=>
  rw[hb] at q;exact wpAny_pure (wpAny_pure (wpAny_pure q))
 | false=>
  rw[hb] at q;exact wpAny_pure (wpAny_pure (wpAny_pure q))
theorem Mc:W.specialIn K (.builtin "object.__class__") "__get__"=some (some (.builtin "getset_descriptor.__get__")):=by kernel_rfl
theorem G3:W.takesIn K (.builtin "object.__class__")=some true:=by kernel_rfl
theorem xclass {od:Option Obj} {s:Shared} {Q:Option Value→Shared→Prop} (X:K.In s.heap) (c:Xc K C bm) (I:W.InstAt s.heap x o C od) (q:Q (some (.ref C)) { s with toks:=s.toks+1 }):wpAny (model prog w) A (getAttr? (.ref x) "__class__") Q E s:=by
 obtain ⟨nm,qn,N,bs,sn,sub,ab,col,dd,k0,k1,k2,k3,k5,lk⟩:=c.lk;have z1:(Value.ref C::bm).contains (.type "BaseException")=true:=by rw[ab2,c.hb,ab4]
 have z3:(Value.ref C::bm).contains (.type "object")=true:=by rw[ab2,c.ho,ab4]
 have J:W.Looks (model prog w) s.heap (isInstance (.ref x) (.type "BaseException")) true:=z1 ▸ Kw X c I.at_ I.cls (.type "BaseException");have z2:(Value.builtin "BaseException.__getattribute__"==Value.builtin "object.__getattribute__")=false:=by decide+kernel
 have hf:W.findObj K C od "__class__"=some (.bind (.builtin "getset_descriptor.__get__") (.builtin "object.__class__")):=by
  unfold W.findObj;rw[W.cy lk,ac9,c.fc,ac9];simp[Mc,G3]
 have hm:W.mroIn K C (.type "object")=some true:=by
  unfold W.mroIn;rw[W.cy lk,ac9,if_neg (by simp),z3]
 have L0:=I.type (M:=model prog w);have L1:=W.looks_find (M:=model prog w) X I hf;obtain ⟨hh,g,d,t,os⟩:=s;dsimp only at X L0 L1 J q;unfold getAttr? getAttrBy? getAttrBy;refine wpAny_bind (wpAny_mkText (wpAny_bind (wpAny_attempt (wpAny_holding (wpAny_bind (W.Looks.here (s:=⟨hh,g,d,t+1,os⟩) L0 (wpAny_bind (W.Looks.here (s:=⟨hh,g,d,t+1,os⟩) (W.looks_findIn X c.fg) ?_))))))));dsimp only;rw[z2,aal,if_neg (by decide)];unfold getAttrByItsOwn hookBefore;refine wpAny_bind ((W.Looks.here (s:=⟨hh,g,d,t+1,os⟩) (W.looks_findIn X c.fh) ?_));refine wpAny_bind (wpAny_attempt (wpAny_holding ?_));unfold callGetattribute boundAndCalled;rw[if_neg (by decide),PySem.F.attr_ValueError.ga.bind (.ref x)];refine wpAny_bind (wpAny_pure (wpAny_call (codeAny_call_builtin PySem.F.attr_ValueError.ga.plain PySem.F.entry_bexc_ga
  (@W.check_slot (model prog w) _ _ ⟨hh,g,d,t+1,os⟩ "BaseException.__getattribute__" "BaseException" "__getattribute__" (.ref x) [.str "__class__" t] [] _ (by decide+kernel) (by decide+kernel) J (PySem.F.args_bexc_ga (.ref x) (.str "__class__" t)) ?_))))
 unfold Builtin.«object.__getattribute__»;refine wpAny_bind (wpAny_pure ?_);dsimp only;refine wpAny_bind (wpAny_pure (wpAny_bind (W.Looks.here (s:=⟨hh,g,d,t+1,os⟩) L0 (wpAny_bind (W.Looks.here (s:=⟨hh,g,d,t+1,os⟩) L1 ?_)))));show wpAny _ _ (holding [.builtin "object.__class__"] (call (.builtin "getset_descriptor.__get__") [.builtin "object.__class__",.ref x,.ref C]) >>=ret) _ _ _
 refine wpAny_bind (wpAny_holding (wpAny_call (W.class_get (s:=⟨hh,g,d,t+1,os⟩) (ox:=o) (od:=od) X I hm ?_)));refine wpAny_pure (wpAny_pure (wpAny_pure q))
theorem xkit {od:Option Obj} (c:Xc K C bm):W.KitX K (.ref x) (.ref C) (λh=>W.InstAt h x o C od) where
 ty:=λ_ _ _ I=>I.type
 it:=λ_ _ X _=>by
  obtain ⟨nm,qn,N,bs,sn,sub,ab,col,dd,k0,k1,k2,k3,k5,lk⟩:=c.lk;intro A' Q' E' s' k q;unfold isType loadHead;exact wpAny_bind (wpAny_loadPart (k _ _ (X _ _ lk)) (wpAny_pure q))
 ne:=λh tp dd' its n sl X htp=>by
  obtain ⟨nm,qn,N,bs,sn,sub,ab,col,dd,k0,k1,k2,k3,k5,lk⟩:=c.lk;refine Bool.eq_false_iff.mpr λq=>?_;have e:C=tp:=Value.ref.inj (beq_iff_eq.mp q);subst e;have z:=congrArg (λo:Option Obj=>o.map (·.cls)) ((X _ _ lk).symm.trans htp);have z2:Value.type "type"=Value.type "tuple":=aac z;exact absurd z2 (by decide)
 ca:=λX I k=>xclass X c I k
theorem Eg {D:Addr} {bD:List Value} (c:Xc K C bm) (cD:Xc K D bD):W.kitOne K (.ref C) (.ref D)=some ((Value.ref C::bm).contains (.ref D)):=by
 obtain ⟨nm,qn,N,bs,sn,sub,ab,col,dd,k0,k1,k2,k3,k5,lk⟩:=c.lk;obtain ⟨nm',qn',N',bs',sn',Af,ab',col',dd',k0',k1',k2',k3',k5',lk'⟩:=cD.lk;unfold W.kitOne;by_cases e:(Value.ref C==Value.ref D)=true
 ·rw[if_pos e,ab2];rw[show (Value.ref D==Value.ref C)=true from by rw[beq_iff_eq] at e ⊢;exact e.symm];rfl
 ·rw[if_neg e];unfold W.kitCls;dsimp only;rw[if_pos (by rw[W.cy lk'];show (true&&((K.lookup D).map (·.cls))==some (Value.type "type"))=true;rw[lk'];rfl)];show W.mroIn K C (.ref D)=_
  unfold W.mroIn;rw[W.cy lk,ac9,if_neg (by simp)]
theorem xkitTy {T:String} (c:Xc K C bm) (hT:W.kitMeta T=true):W.kitOne K (.ref C) (.type T)=some (bm.contains (.type T)):=by
 obtain ⟨nm,qn,N,bs,sn,sub,ab,col,dd,k0,k1,k2,k3,k5,lk⟩:=c.lk;unfold W.kitOne;rw[if_neg (by intro z;cases beq_iff_eq.mp z)];unfold W.kitCls;dsimp only;rw[if_pos hT];show W.mroIn K C (.type T)=_
 unfold W.mroIn;rw[W.cy lk,ac9,if_neg (by simp),ab2];rfl
end
end PySem
namespace PySem
open Sem (wp)
theorem i4 {α:Type} {p q:α→Bool}:∀(l:List α) (i:Nat),l.findIdx? q=some i→(∀a∈l,q a=true→p a=false)→(l.eraseIdx i).find? p=l.find? p
 | [],i,h,_=>by simp at h
 | a::l,i,h,hq=>by
  rw[List.findIdx?_cons] at h;cases e:q a with
  | true=>
   rw[e] at h;have h':0=i:=by simpa using h
   subst h';rw[List.eraseIdx_cons_zero,abm,hq a aa6 e]
  | false=>
   rw[e] at h;simp only[ad1,if_false,Option.map_eq_some_iff] at h;obtain ⟨j,hj,rfl⟩:=h;rw[List.eraseIdx_cons_succ,abm,abm,i4 l j hj λb hb=>hq b (aab _ hb)]
theorem we {es:Array DictEntry} {name x:Str} {i:Nat} (hi:es.findIdx? (λe=>e.key.isStr name)=some i) (hx:x≠name):nsFind (es.eraseIdxIfInBounds i) x=nsFind es x:=by
 obtain ⟨l⟩:=es;simp only[nsFind,findBy,List.eraseIdxIfInBounds_toArray,List.find?_toArray,List.findIdx?_toArray] at hi ⊢;rw[i4 l i hi λa _ ha=>?_];cases e:a.key.isStr x with
 | false=>rfl
 | true=>exact absurd (Value.isStr_inj _ _ _ e ha) hx
section
variable {M:Model} {A:Around} {E:Value→Shared→Prop} {s:Shared} {env:Env}
theorem Ab {a:Addr} {m:Str→Option Value} {name:Str} {v:Value} {Q:Bool→Shared→Prop} (hn:s.heap.Ns a m) (hv:m name=some v)
  (hQ:∀h' m',h'.Ns a m'→(∀y,y≠name→m' y=m y)→Heap.SameBut a s.heap h'→Q true { s with heap:=h' }):wpAny M A (nsDel a name) Q E s:=by
 obtain ⟨o,es,ep,ho,hd,hk,hm⟩:=id hn;have hs:es.any (·.key.isStr name)=true:=by
  have z:=hm name;rw[hv] at z;unfold nsFind findBy at z;obtain ⟨en,h1,_⟩:=Option.map_eq_some_iff.mp z;have h2:=Array.find?_some h1;obtain ⟨j,hj,e⟩:=Array.mem_iff_getElem.mp (Array.mem_of_find?_eq_some h1);exact Array.any_eq_true.mpr ⟨j,hj,by rw[e];exact h2⟩
 have hhas:nsHas name o=pure true:=by
  rw[nsHas_eq];unfold nsHasByArray;rw[hd];dsimp only;rw[if_pos hs]
 unfold nsDel;refine wpAny_bind (wpAny_loadPart ho ?_);rw[hhas];refine wpAny_bind (wpAny_pure ?_);rw[if_pos rfl];refine wpAny_bind (wpAny_updatePart ho (wpAny_pure ?_));obtain ⟨cl,d,dt,sl⟩:=o;subst hd;cases hi:es.findIdx? (·.key.isStr name) with
 | none=>
  exfalso
  obtain ⟨j,hj,hp⟩:=Array.any_eq_true.mp hs;have:=(Array.findIdx?_eq_none_iff.mp hi) es[j] (Array.getElem_mem hj);simp[hp] at this
 | some i=>
  refine hQ _ (nsFind (es.eraseIdxIfInBounds i)) ⟨_,_,ep+1,Heap.get?_update_self _ ho (by simp only[Obj.dropName_eq,Obj.dropNameByArray,hi] <;> rfl),(by simp only[Obj.dropName_eq,Obj.dropNameByArray,hi] <;> rfl),hk.erase i,λ_=>rfl⟩ (λy hy=>?_) (Heap.SameBut.update ..);rw[we hi hy];exact hm y
theorem Iv {n:Str} {pos:Pos} {m:Str→Option Value} {Q:Unit→Shared→Prop} (hl:env.kindOf n=some .local) (hn:s.heap.Ns env.locals m)
  (hp:(env.scope.kind==.class||(env.scope.kind==.module&&env.locals !=env.globals))=false)
  (h:∀h' m',h'.Ns env.locals m'→(∀y,y≠n→m' y=m y)→Heap.SameBut env.locals s.heap h'→Q () { s with heap:=h',toks:=s.toks+1 }):
  wpAny M A (do bindName env n .none;unbindBehindTheSuite env n pos) Q E s:=by
 refine wpAny_bind (wpAny_bindName (wpAny_storeName_local hl hn (λh1 hn1 hs1=>?_) hp));unfold unbindBehindTheSuite;refine wpAny_onRaise ?_;unfold unbindName;refine wpAny_bind (wpAny_point (wpAny_bind ?_));unfold deleteName;simp only[hl,hp];rw[if_neg (by decide)];refine wpAny_bind (Ab (v:=Value.none) hn1 (by simp) λh2 m2 hn2 ho2 hs2=>?_);simp only[Bool.not_true,ad1,if_false];exact wpAny_pure (wpAny_point (h h2 m2 hn2 (λy hy=>by rw[ho2 y hy];simp[hy]) (hs1.trans hs2)))
end
end PySem
namespace L2
open PySem PySem.Spec PyProof.Rows
noncomputable def r9 (H:Hp) (a:Addr):Hp:=λb=>if b=a then none else H b
theorem gc {H:Hp} {a b:Addr} (h:b≠a):r9 H a b=H b:=by unfold r9;rw[if_neg h]
theorem uv {H:Hp} {a:Addr}:r9 H a a=none:=by unfold r9;rw[if_pos rfl]
theorem Ge {H:Hp} {a b:Addr} (h:H b=none):r9 H a b=none:=by
 unfold r9;split
 ·rfl
 ·exact h
theorem Ke {H:Hp} {a:Addr} {o:HO} (e:H a=some o):upd H a o=H:=by
 funext b
 unfold upd;split
 ·rename_i h;rw[h,e]
 ·rfl
section
variable {X:Cx} {pins:List (Addr×Obj)} {σ:St} {H:Hp} {s:Shared} {n:Nat} {a:Addr}
theorem Inv.track {o:HO} (I:Inv X pins σ H s) (B:Bnd X pins n) (lo:n≤a) (un:H a=none) (ob:b4 X.prog X.w (upd H a o) s.heap a o):Inv X pins σ (upd H a o) s:=by
 obtain ⟨h,g,d,t,os⟩:=s;have nn:∀b u,H b=some u→b≠a:=λb u e=>aq e un;refine I.step (h':=h) (H':=upd H a o) (g':=g) (t':=t) (d':=d) (ch:=[a]) (λb hb=>?_) (λb u _ _ _ e _=>e) (λb u _ _ _ e _=>⟨u.slots,e⟩) (λb u hb _ n=>?_) (λb u _ e=>⟨u,e⟩)
  (λb xs e=>by rw[ai (nn b _ e)];exact e) (λb u v e=>by rw[ai (nn b _ e)];exact e) (λb ps e=>⟨#[],by rw[ai (nn b _ e),e];simp⟩) (λ_ m=>m) (λb u e=>?_) I.bare
 ·obtain rfl:b=a:=by simpa using hb
  exact ⟨.inr (aak B.1 lo),aby (aah B.2.1 lo),λx c e=>aas (aah (B.2.2.1 x c e) lo),λp hp=>aas (aah (B.2.2.2 p hp) lo)⟩
 ·rw[ai (λz=>hb (by simp[z]))];exact n
 ·by_cases hb:b=a
  ·subst hb;rw[aa] at e;cases e
   exact ob
  ·rw[ai hb] at e;exact (I.hok b u e).rq (λ_ _ _ q=>q) (λc q=>by rw[ai (nn c _ q)];exact q) λc xs q=>by rw[ai (nn c _ q)];exact q
theorem Inv.Mx {φ:Heap→Prop} (I:Inv X pins σ H s) (e:H a=some (.ext φ)):Inv X pins σ (r9 H a) s:=by
 obtain ⟨h,g,d,t,os⟩:=s;have nn:∀b u,H b=some u→u≠.ext φ→b≠a:=λb u q ne z=>by subst z;rw[e] at q;cases q;exact ne rfl
 refine I.step (h':=h) (H':=r9 H a) (g':=g) (t':=t) (d':=d) (ch:=[]) (λ_ z=>nomatch z) (λb u _ _ _ e _=>e) (λb u _ _ _ e _=>⟨u.slots,e⟩) (λb u _ _ n=>Ge n) (λb u _ e=>⟨u,e⟩)
  (λb xs q=>by rw[gc (nn b _ q (λz=>nomatch z))];exact q) (λb u v q=>by rw[gc (nn b _ q (λz=>nomatch z))];exact q) (λb ps q=>⟨#[],by rw[gc (nn b _ q (λz=>nomatch z)),q];simp⟩) (λ_ m=>m) (λb u q=>?_) I.bare
 by_cases hb:b=a
 ·subst hb;rw[uv] at q;cases q
 ·rw[gc hb] at q;exact (I.hok b u q).rq (λ_ _ _ q=>q) (λc q=>by rw[gc (nn c _ q (λz=>nomatch z))];exact q) λc xs q=>by rw[gc (nn c _ q (λz=>nomatch z))];exact q
theorem Inv.xmade {C:Addr} {us:List Value} (I:Inv X pins σ H s):Inv X pins σ (upd H (s.heap.objs.size+1) (XO (s.heap.objs.size+1) C none true))
  { s with heap:=(s.heap.push { cls:=.type "tuple",data:=.seq us.toArray }).push { cls:=.ref C,data:=.fields #[.ref s.heap.objs.size,.none,.none,.none,.bool false,.none] } }:=by
 have I1:=I.kept (h':=s.heap.push { cls:=.type "tuple",data:=.seq us.toArray }) (t':=s.toks) λb u e=>Heap.get?_push_of_some _ e;have sz:(s.heap.push { cls:=.type "tuple",data:=.seq us.toArray }).objs.size=s.heap.objs.size+1:=Heap.size_push ..;have g1:=Heap.get?_push_size (s.heap.push { cls:=.type "tuple",data:=.seq us.toArray }) (o:={ cls:=.ref C,data:=.fields #[.ref s.heap.objs.size,.none,.none,.none,.bool false,.none] }) rfl;rw[sz] at g1;exact I1.laid (t':=s.toks) (λb u e=>Heap.get?_push_of_some _ e) (by show (s.heap.push _).objs.size≤_;rw[sz];exact aa3 _) (XO.mk ⟨_,_,g1,rfl,rfl,rfl,λ_=>⟨_,rfl⟩⟩)
end
def wj (C:Addr) (sp:Sp) (E:XK) (t:TA):TS:=λ_ σ H=>t σ H λvs H1=>∀a,H1 a=none→sp (.ref a::vs) (upd H1 a (XO a C none true)) (λv H2=>v=.non∧∃dx,H2 a=some (XO a C dx true)∧E (.ref C) dx (r9 H2 a)) E0
section
variable {X:Cx} {E:XK} {k:Nat} {f C:Addr} {bm:List Value} {fd:FuncData} {ps:List Str} {sp:Sp} {x:Str} {p cpos pos:Pos} {e:Expr} {es:List Expr} {t:TA}
theorem Gw (c:Xc X.K C bm) (hi:PySem.W.findIn X.K (.ref C) "__init__"=some (some (.ref f))) (hfn:PySem.W.typeIn X.K (.ref f)=some (.type "function")) (F:h9 X.prog X.w X.K X.mg X.base CX0 k f fd ps sp)
  (hr:cv (k+1) X.A) (hps:ps.length≤100) (hm:X.mg x=some (.ref C)) (hb:Binds X.K fd ps []) (ha:PA (X.xp E) (e::es) t) (hg:Gl X x:=by rfl) (hdb:(x==("__debug__":Str))=false:=by decide+kernel)
  (he:starEach (e::es) X.env=(false,eval e X.env)::starEach es X.env:=by rfl) (hpl:(backTo cpos (starEach es X.env)).any (·.1)=false:=by rfl):
  PS (X.xp E) (.Raise (some (.Call (.Name x p) (e::es) [] cpos)) none pos) (wj C sp E t):=by
 intro pins s σ H D I h;rw[arm_exec_Raise];refine wpAny_bind (wpAny_standAt (xraise (K:=X.K) hr.hd (wpAny_bind (wpAny_mono (wpAny_Call_Name_kw (js I hg hm ?_ hdb)) (λv s₃ h₃=>wpAny_bind (wpAny_standAt (wpAny_pure h₃))) λ_ _ x=>x))));refine PySem.W.callWith_K (h₀:=X.base) I.ok.mod.kin c.kp (thn (ha cpos pins s σ H _ I h) λus s1 ⟨vs,H1,I1,r,q⟩=>⟨I1.kIn,?_⟩) he hpl;have q1:=q (s1.heap.objs.size+1) (I1.hok.fresh (ac2 _));have r2:Vals (V.ref (s1.heap.objs.size+1)::vs) (Value.ref (s1.heap.objs.size+1)::us):=.cons rfl r;have hl:(Value.ref (s1.heap.objs.size+1)::us).length=ps.length:=by rw[←r2.length];exact F.len _ _ _ _ q1
 have hl2:us.length≤sizeLine:=by
  rw[sizeLine_eq];rw[aa8] at hl;omega
 have I2:=Inv.xmade (C:=C) (us:=us) I1;refine Jl I1.kIn c hi (λself=>PySem.W.bind_fn I1.kIn self hfn) hl2 (wpAny_call (codeAny_mono (F.run _ X.stack _ _ ⟨Value.ref (s1.heap.objs.size+1)::us,[]⟩ (Value.ref (s1.heap.objs.size+1)::us) _ _ E0 (hr.make C us []) (I2.gk.make C us [])
  (by have z:=hb _ (Value.ref (s1.heap.objs.size+1)::us) I2.kIn (by rw[aaq];exact hl);rw[aaq] at z;exact z) r2 q1) λr s' hq'=>?_))
 cases r with
 | error e=>exact False.elim hq'
 | ok fl=>
  cases fl with
  | ret u=>
   obtain ⟨v,H',I3,rv,ev,dx,ha',qE⟩:=I2.after hq';subst ev;obtain ⟨o,vv,g1,g2,g3,g4,g5⟩:=XO.get I3.hok ha';obtain ⟨tt,rfl⟩:=g5 rfl;refine ⟨rv,_,o,_,C,bm,rfl,I3.kIn,c,g1,g2,g4,rfl,pins,σ,r9 H' (s1.heap.objs.size+1),s1.heap.objs.size,_,.ref C,dx,rfl,I3.cc.Mx ha',I1.cc.bnd,⟨ac2 _,uv,o,_,g1,g2,g3,g4,(by show 1 < 6;decide),.inl rfl⟩,qE⟩
  | next=>exact False.elim hq'
  | brk=>exact False.elim hq'
  | cont=>exact False.elim hq'
end
def tXInit (K:PySem.W.Frag) (t:TA):TE:=λσ H Q=>t σ H λvs H1=>∃a C dx rest bm,vs=.ref a::rest∧H1 a=some (XO a C dx true)∧Xc K C bm∧rest.length≤100∧Q .non H1
def sXFld (K:PySem.W.Frag) (f:Str) (ta tv:TE):TS:=λD σ H=>tv σ H λy H1=>ta σ H1 λx H2=>∃a C nw bm,x=.ref a∧Xc K C bm∧PySem.W.findIn K (.ref C) f=some none∧
 ((H2 a=some (XO a C none nw)∧∀dx,H2 dx=none→dx≠a→D.nx σ (upd (upd H2 dx (XD dx [(f,y)])) a (XO a C (some dx) nw)))∨
  ∃dx fs,H2 a=some (XO a C (some dx) nw)∧H2 dx=some (XD dx fs)∧fs.length < 100∧D.nx σ (upd H2 dx (XD dx ((f,y)::fs))))
def An (K:PySem.W.Frag) (f:Str) (ta:TE):TE:=λσ H Q=>ta σ H λx H1=>∃a C dx nw bm fs v,x=.ref a∧H1 a=some (XO a C (some dx) nw)∧H1 dx=some (XD dx fs)∧Xc K C bm∧PySem.W.findIn K (.ref C) f=some none∧fs.lookup f=some v∧Q v H1
section
variable {X:Cx} {D:Addr} {y f:Str} {p apos pos pos':Pos} {e o value:Expr} {es:List Expr} {t:TA} {ta tv:TE}
theorem xo_put {pins:List (Addr×Obj)} {σ:St} {H:Hp} {s:Shared} {a C:Addr} {dx:Option Addr} {us:List Value} (I:Inv X pins σ H s) (e:H a=some (XO a C dx true)):
  Inv X pins σ H { s with heap:=(s.heap.push { cls:=.type "tuple",data:=.seq us.toArray }).update a (Obj.mapFields (·.setIfInBounds 0 (.ref s.heap.objs.size))) }:=by
 obtain ⟨o,vv,g1,g2,g3,g4,g5⟩:=XO.get I.hok e;obtain ⟨tt,rfl⟩:=g5 rfl;have I1:=I.kept (h':=s.heap.push { cls:=.type "tuple",data:=.seq us.toArray }) (t':=s.toks) λb u e=>Heap.get?_push_of_some _ e;have h1:(s.heap.push { cls:=.type "tuple",data:=.seq us.toArray }).get? a=some o:=Heap.get?_push_of_some _ g1;have d1:=Obj.data_mapFields g4 (·.setIfInBounds 0 (Value.ref s.heap.objs.size));have u1:=Heap.get?_update_self (Obj.mapFields (·.setIfInBounds 0 (Value.ref s.heap.objs.size))) h1 (Obj.isFreed_of_fields d1);have w1:=I1.write (x:=a) (e:=a) (o:=XO a C dx true) (t':=s.toks) (h':=(s.heap.push { cls:=.type "tuple",data:=.seq us.toArray }).update a (Obj.mapFields (·.setIfInBounds 0 (.ref s.heap.objs.size)))) (by rw[e];exact True.intro) (.inl rfl)
  (λb u hb q=>(Heap.get?_update_other _ _ (Ne.symm hb)).trans q) ⟨_,u1⟩ (XO.mk ⟨_,_,u1,(Obj.cls_mapFields _ _).trans g2,(jd _ _).trans g3,d1,λ_=>⟨s.heap.objs.size,rfl⟩⟩)
 rw[Ke e] at w1;exact w1
theorem Kf {pl:Sem Bool} (hm:X.mg y=some (.ref D)) (hr:PySem.W.readsIn X.K D (.type "type")=true) (ht:PySem.W.typeIn X.K (.ref D)=some (.type "type"))
  (hf:PySem.W.findCls X.K (.ref D) (.type "type") "__init__"=some (.val (.builtin "ValueError.__init__"))) (ha:PA X (e::es) t) (hg:Gl X y:=by rfl) (hdb:(y==("__debug__":Str))=false:=by decide+kernel)
  (hst:starEach (e::es) X.env=(false,eval e X.env)::starEach es X.env:=by rfl) (hpl:(backTo pos (starEach es X.env)).any (·.1)=false:=by rfl)
  (hc:eval (.Call (.Attribute (.Name y p) "__init__" apos) (e::es) [] pos) X.env=(do
   let ov ←eval (.Name y p) X.env
   standAt apos.atName
   let (f,first) ←holding [ov] (getMethod ov "__init__" pl)
   callWith pos f first (backTo pos (starEach (e::es) X.env)) (backToKw pos (keywordEach [] X.env))):=by rfl):
  PE X (.Call (.Attribute (.Name y p) "__init__" apos) (e::es) [] pos) (tXInit X.K t):=by
 intro pins s σ H Q I h;refine PySem.W.methodCall_KW (pl:=pl) (js I hg hm ?_ hdb) hc;have hga:PySem.W.findIn X.K (.type "type") "__getattribute__"=some (some (.builtin "type.__getattribute__")):=PySem.W.type_tga;unfold getMethod specialOf;refine wpAny_bind (wpAny_bind ((PySem.W.looks_typeIn I.kIn ht).here ((PySem.W.looks_findIn I.kIn hga).here ?_)));dsimp only;rw[if_pos PySem.W.canon_tga];refine wpAny_bind (PySem.W.cls_value I.kIn hr hf rfl (wpAny_pure ?_));refine PyProof.Rows.callWith_builtin1 (thn (ha pos pins _ σ H _ (I.tok _) h) λus s1 ⟨vs,H1,I1,r,a,C,dx,rest,bm,ev,ea,c,hl,q⟩=>?_) hst hpl;subst ev;cases r with
 | cons r1 r2=>
  cases r1
  obtain ⟨o,vv,g1,g2,g3,g4,g5⟩:=XO.get I1.hok ea;obtain ⟨tt,rfl⟩:=g5 rfl;obtain ⟨hh,g,d,tk,os⟩:=s1;refine wpAny_call (Ga I1.kIn c g1 g2 g4 (by rw[←r2.length,sizeLine_eq];omega) ?_);exact ⟨.non,H1,xo_put I1 ea,rfl,q⟩
theorem Kz (ho:PE X o ta) (hv:PE X value tv) (hs:swapsWith value (some (.Attribute o f pos')) pos.line X.env=pure false):PS X (.Assign [.Attribute o f pos'] value pos) (sXFld X.K f ta tv):=by
 intro pins s σ H D I h;refine plainObj_wpAny_Assign_Attribute (thn (hv pins s σ H _ I h) λu s1 ⟨y,H1,I1,ry,q⟩=>thn (ho pins s1 σ H1 _ I1 q) λov s2 ⟨x,H2,I2,rx,a,C,nw,bm,ex,c,hna,q2⟩=>?_) hs;subst ex;obtain rfl:ov=Value.ref a:=rx;obtain ⟨hh,g,d,tk,os⟩:=s2;rcases q2 with ⟨ea,q2⟩ | ⟨dx,fs,ea,ed,hl,q2⟩
 ·obtain ⟨ob,vv,g1,g2,g3,g4,g5⟩:=XO.get I2.hok ea;refine uj I2.kIn c g1 g2 λtk2 t2=>J4 I2.kIn c hna g1 g2 g4 g3 λh' t3 ns gx kp=>?_;have fr:H2 hh.objs.size=none:=I2.hok.fresh (aa3 _);have ne:hh.objs.size≠a:=aby (Heap.lt_size g1);have J:=I2.write (x:=a) (e:=a) (o:=XO a C (some hh.objs.size) nw) (t':=t3) (h':=h') (by rw[ea];exact True.intro) (.inl rfl) (λb u hb q=>kp b u hb q) ⟨_,gx⟩ (XO.mk ⟨_,_,gx,g2,rfl,g4,g5⟩);have J2:=J.track (a:=hh.objs.size) (o:=XD hh.objs.size [(f,y)]) I2.bnd (aa3 _) (by rw[ai ne];exact fr) (XD.mk ⟨_,ns,λz=>?_,λz hz=>?_⟩)
  ·refine ⟨σ,_,?_,q2 hh.objs.size fr ne⟩;have sw:upd (upd H2 a (XO a C (some hh.objs.size) nw)) hh.objs.size (XD hh.objs.size [(f,y)])=upd (upd H2 hh.objs.size (XD hh.objs.size [(f,y)])) a (XO a C (some hh.objs.size) nw):=by
    funext b
    by_cases e1:b=a
    ·rw[e1,ai (Ne.symm ne),aa,aa]
    ·by_cases e2:b=hh.objs.size
     ·rw[e2,aa,ai ne,aa]
     ·rw[ai e2,ai e1,ai e1,ai e2]
   rw[←sw];exact J2
  ·by_cases e:z=f
   ·rw[e,if_pos rfl];show dq (([(f,y)]:List (Str×V)).lookup f) (some u)
    rw[ac7];simp only[beq_self_eq_true];exact ry
   ·rw[if_neg e];show dq (([(f,y)]:List (Str×V)).lookup z) none
    rw[ac7,show (z==f)=false from by simpa using e];exact True.intro
  ·by_cases e:z=f
   ·rw[e];simp
   ·exact absurd (if_neg e) hz
 ·obtain ⟨ob,vv,g1,g2,g3,g4,g5⟩:=XO.get I2.hok ea;obtain ⟨mA,n1,n2,n3⟩:=XD.get I2.hok ed;refine uj I2.kIn c g1 g2 λtk2 t2=>Ko I2.kIn c hna g1 g2 g3 n1 n3 (by rw[aa2,sizeLine_eq];omega) λh' t3 ns sb=>?_;have hd:∃o,h'.get? dx=some o:=let ⟨o,_,_,e',_⟩:=ns;⟨o,e'⟩
  refine ⟨σ,_,I2.write (x:=dx) (e:=dx) (o:=XD dx ((f,y)::fs)) (t':=t3) (h':=h') (by rw[ed];exact True.intro) (.inl rfl) (λb u hb q=>(sb.2 b hb).trans q) hd (XD.mk ⟨_,ns,λz=>?_,λz hz=>?_⟩),q2⟩
  ·by_cases e:z=f
   ·rw[e,if_pos rfl];show dq (((f,y)::fs).lookup f) (some u)
    rw[ac7];simp only[beq_self_eq_true];exact ry
   ·rw[if_neg e];show dq (((f,y)::fs).lookup z) (mA z)
    rw[ac7,show (z==f)=false from by simpa using e];exact n2 z
  ·by_cases e:z=f
   ·rw[e];simp
   ·dsimp only at hz;rw[aao];exact aab _ (n3 z (by rw[if_neg e] at hz;exact hz))
theorem xy (he:PE X e ta) (hb:attributeBase e f X.env (eval e X.env)=eval e X.env):PE X (.Attribute e f pos) (An X.K f ta):=by
 intro pins s σ H Q I h;refine M9 hb (thn (he pins s σ H _ I h) λu s1 ⟨x,H1,I1,rx,a,C,dx,nw,bm,fs,v,ex,ea,ed,c,hna,l,q⟩=>?_);subst ex;obtain rfl:u=Value.ref a:=rx;obtain ⟨ob,vv,g1,g2,g3,g4,g5⟩:=XO.get I1.hok ea;obtain ⟨mA,n1,n2,n3⟩:=XD.get I1.hok ed;obtain ⟨w,hw,rw'⟩:=dq.some_of (v:=v) (o:=mA f) (by rw[←l];exact n2 f);obtain ⟨hh,g,d,tk,os⟩:=s1;exact Fl I1.kIn c hna g1 g2 g4 g3 n1.ns hw (by first | exact G6 rw' | (cases v <;> (first | (obtain ⟨_,rfl⟩:=rw';rfl) | (cases rw';rfl)))) ⟨v,H1,I1.tok _,rw',q⟩
end
def XIs (K:PySem.W.Frag) (H:Hp) (x:V) (C:Addr) (bm:List Value):Prop:=Xc K C bm∧∃a dx nw,x=.ref a∧H a=some (XO a C dx nw)∧(dx=none∨∃d fs,dx=some d∧H d=some (XD d fs))
section
variable {X:Cx} {pins:List (Addr×Obj)} {σ:St} {H:Hp} {s:Shared}
theorem qe {a C:Addr} {dx:Option Addr} {nw:Bool} (I:Inv X pins σ H s) (ea:H a=some (XO a C dx nw)) (ed:dx=none∨∃d fs,dx=some d∧H d=some (XD d fs)):∃o od,PySem.W.InstAt s.heap a o C od:=by
 obtain ⟨o,vv,g1,g2,g3,g4,g5⟩:=XO.get I.hok ea;have no:PySem.W.notCls o=true:=by unfold PySem.W.notCls;rw[g4]
 rcases ed with rfl | ⟨d,fs,rfl,e⟩
 ·exact ⟨o,none,g1,g2,no,by rw[g3];exact True.intro⟩
 ·obtain ⟨mA,⟨od,_,_,n1,_⟩,_⟩:=XD.get I.hok e;exact ⟨o,some od,g1,g2,no,by rw[g3];exact n1⟩
end
section
variable {X:Cx}
theorem wa:cm X (.builtin "isinstance") (λxs H Q=>∃x C bm D bD,xs=[x,.ref D]∧XIs X.K H x C bm∧Xc X.K D bD∧Q (.bl ((Value.ref C::bm).contains (.ref D))) H):=by
 intro pins s σ H xs us Q I r h;obtain ⟨x,C,bm,D,bD,rfl,⟨c,a,dx,nw,rfl,ea,ed⟩,cD,q⟩:=h;obtain ⟨u,u2,rfl,rx,r2⟩:=vals2 r;cases (show u=Value.ref a from rx)
 cases (show u2=Value.ref D from r2)
 obtain ⟨o,od,J⟩:=qe I ea ed;exact PySem.W.kia_one (xkit c) I.kIn J (Eg c cD) (λz=>nomatch z) λtk=>⟨.bl _,H,I.tok tk,rfl,q⟩
theorem wo:cm X (.builtin "isinstance") (λxs H Q=>∃x C bm n,xs=[x,.ty n]∧XIs X.K H x C bm∧PySem.W.kitMeta n=true∧Q (.bl (bm.contains (.type n))) H):=by
 intro pins s σ H xs us Q I r h;obtain ⟨x,C,bm,n,rfl,⟨c,a,dx,nw,rfl,ea,ed⟩,hn,q⟩:=h;obtain ⟨u,u2,rfl,rx,r2⟩:=vals2 r;cases (show u=Value.ref a from rx)
 cases (show u2=Value.type n from r2)
 obtain ⟨o,od,J⟩:=qe I ea ed;exact PySem.W.kia_one (xkit c) I.kIn J (xkitTy c hn) (λz=>nomatch z) λtk=>⟨.bl _,H,I.tok tk,rfl,q⟩
theorem ot:∀{cs:List Addr} {us:List Value},Vals (cs.map V.ref) us→us=cs.map Value.ref
 | [],_,.nil=>rfl
 | c::cs,_,.cons r t=>by
  rw[aao,ot t];cases r
  rfl
theorem vb {K:PySem.W.Frag} {C:Addr} {bm:List Value} (c:Xc K C bm):∀{cs:List Addr},(∀D∈cs,∃bD,Xc K D bD)→PySem.W.kitAny K (.ref C) (cs.map Value.ref)=some (cs.any λD=>(Value.ref C::bm).contains (.ref D))
 | [],_=>rfl
 | D::cs,h=>by
  obtain ⟨bD,cD⟩:=h D aa6;rw[aao,PySem.W.kitAny,Eg c cD,aca,vb c λD' h'=>h D' (aab _ h')];cases (Value.ref C::bm).contains (.ref D) <;> rfl
theorem pz {K:PySem.W.Frag}:∀{cs:List Addr},(∀D∈cs,∃bD,Xc K D bD)→PySem.W.kitAny K (.type "NoneType") (cs.map Value.ref)=some false
 | [],_=>rfl
 | D::cs,h=>by
  obtain ⟨bD,cD⟩:=h D aa6;obtain ⟨nm',qn',N',bs',sn',Af,ab',col',dd',k0',k1',k2',k3',k5',lk'⟩:=cD.lk;have e:PySem.W.kitOne K (.type "NoneType") (.ref D)=some false:=by
   unfold PySem.W.kitOne;rw[if_neg (by intro z;cases beq_iff_eq.mp z)];unfold PySem.W.kitCls;dsimp only;rw[if_pos (by rw[PySem.W.cy lk'];show (true&&((K.lookup D).map (·.cls))==some (Value.type "type"))=true;rw[lk'];rfl)];show (fastBuiltinMro "NoneType").map (·.contains (Value.ref D))=some false
   rw[show fastBuiltinMro "NoneType"=some [Value.type "NoneType",Value.type "object"] from by kernel_rfl];rfl
  rw[aao,PySem.W.kitAny,e];exact pz λD' h'=>h D' (aab _ h')
theorem vo:cm X (.builtin "isinstance") (λxs H Q=>∃(x:V) (p:Addr) (cs:List Addr) (b:Bool),xs=[x,.ref p]∧H p=some (.tup (cs.map V.ref))∧(∀D∈cs,∃bD,Xc X.K D bD)∧
  ((x=.non∧b=false)∨∃C bm,XIs X.K H x C bm∧b=cs.any λD=>(Value.ref C::bm).contains (.ref D))∧Q (.bl b) H):=by
 intro pins s σ H xs us Q I r h;obtain ⟨x,p,cs,b,rfl,hp,hcs,hx,q⟩:=h;obtain ⟨u,u2,rfl,rx,r2⟩:=vals2 r;cases (show u2=Value.ref p from r2)
 obtain ⟨_,its,ri,o,h1,h2,k,h3,h4⟩:=(show b4 X.prog X.w H s.heap p (.tup (cs.map V.ref)) from I.hok p _ hp);obtain rfl:=ot ri;obtain ⟨cls,dd,data,sl⟩:=o;cases (show cls=.type "tuple" from h2)
 cases (show data=.seq (cs.map Value.ref).toArray k from h3)
 have fin:∀tk:Nat,∃y H',Inv X pins σ H' { s with toks:=tk }∧RelV y (Value.bool b)∧Q y H':=λtk=>⟨.bl b,H,I.tok tk,rfl,q⟩;rcases hx with ⟨rfl,rfl⟩ | ⟨C,bm,⟨c,a,dx,nw,rfl,ea,ed⟩,rfl⟩
 ·cases (show u=Value.none from rx)
  exact PySem.W.kia_tup PySem.W.kitx_none I.kIn True.intro h1 (pz hcs) (λz=>nomatch z) fin
 ·cases (show u=Value.ref a from rx)
  obtain ⟨o',od,J⟩:=qe I ea ed;exact PySem.W.kia_tup (xkit c) I.kIn J h1 (vb c hcs) (λz=>nomatch z) fin
end
def XF (X:Cx) (pins:List (Addr×Obj)) (σ:St) (E:XK):Value→Shared→Prop:=λe s'=>∃H' n a cls dx,e=.ref a∧Inv X pins σ H' s'∧Bnd X pins n∧Fly n H' s'.heap a cls dx∧E cls dx H'
abbrev TX:=Ends→XK→St→Hp→Prop
def PXS (X:Cx) (st:List Stmt) (t:TX):Prop:=
 ∀(pins:List (Addr×Obj)) (s:Shared) (σ:St) (H:Hp) (D:Ends) (E:XK),Inv X pins σ H s→t D E σ H→wpAny (model X.prog X.w) X.A (execs st X.env) (SP X pins D) (XF X pins σ E) s
noncomputable def Ii (sp:Sp) (t:TA):TX:=λD E σ H=>t σ H λvs H1=>sp vs H1 (λ_ H2=>D.nx σ H2) E
section
variable {X:Cx} {k:Nat} {ps:List Str} {sp:Sp} {x:Str} {p pos epos:Pos} {e:Expr} {es:List Expr} {t:TA}
theorem Mn (h:i6 X.prog X.w X.K X.mg X.base k x ps sp) (hr:cv k X.A) (ha:PA X.nox (e::es) t) (hg:Gl X x) (hdb:(x==("__debug__":Str))=false)
  (he:starEach (e::es) X.env=(false,eval e X.env)::starEach es X.env) (hpl:(backTo pos (starEach es X.env)).any (·.1)=false)
  {pins:List (Addr×Obj)} {s:Shared} {σ:St} {H:Hp} {Q:VK} {E:XK} (I:Inv X pins σ H s) (w:t σ H λvs H1=>sp vs H1 Q E):
  wpAny (model X.prog X.w) X.A (eval (.Call (.Name x p) (e::es) [] pos) X.env) (EP X pins σ Q) (XF X pins σ E) s:=by
 obtain ⟨f,fd,F,b,kp,m⟩:=h;refine wpAny_Call_Name_kw (js I hg m ?_ hdb);refine PySem.W.callWith_K (h₀:=X.base) I.ok.mod.kin kp (wpAny_mono (ha pos pins s σ H _ (I.mh _) w) (λus s1 ⟨vs,H1,I1',r,q⟩=>?_) λ_ _ z=>False.elim z) he hpl;have I1:=I1'.cc;refine ⟨I1.kIn,?_⟩;have hl:us.length=ps.length:=by rw[←r.length];exact F.len _ _ _ _ q
 refine wpAny_call (codeAny_mono (F.run X.A X.stack s1 H1 ⟨us,[]⟩ us vs Q E hr I1.gk (by have z:=b s1 us I1.kIn (by rw[aaq];exact hl);rw[aaq] at z;exact z) r q) λr s' hq=>?_);cases r with
 | error e=>
  obtain ⟨H',a,cls,dx,rfl,os,bare,un,hok,F',qE⟩:=hq;exact ⟨H',_,a,cls,dx,rfl,I1.Kd (ch:=[]) os un hok bare (λb z=>absurd z (by simp)),I1.bnd,F',qE⟩
 | ok fl=>
  cases fl with
  | ret u=>exact I1.after hq
  | next=>exact False.elim hq
  | brk=>exact False.elim hq
  | cont=>exact False.elim hq
theorem Ij (h:i6 X.prog X.w X.K X.mg X.base k x ps sp) (hr:cv k X.A) (ha:PA X.nox (e::es) t) (hg:Gl X x:=by rfl) (hdb:(x==("__debug__":Str))=false:=by decide+kernel)
  (he:starEach (e::es) X.env=(false,eval e X.env)::starEach es X.env:=by rfl) (hpl:(backTo pos (starEach es X.env)).any (·.1)=false:=by rfl) (hs:swapsWith (.Call (.Name x p) (e::es) [] pos) none epos.line X.env=pure false:=by rfl):
  PXS X [.Expr (.Call (.Name x p) (e::es) [] pos) epos] (Ii sp t):=by
 intro pins s σ H D E I w;refine wpAny_execs_cons (wpAny_Expr_any (thn (Mn h hr ha hg hdb he hpl I w) λv s1 ⟨y,H1,I1,r1,q1⟩=>?_) I.quiet hs);exact wpAny_execs_nil ⟨σ,H1,I1,q1⟩
end
section
variable {X:Cx} {pins:List (Addr×Obj)} {σ:St} {H:Hp} {s:Shared}
theorem Inv.locs {h':Heap} {m m':Str→Option Value} {t':Nat} (I:Inv X pins σ H s) (hl:∀(i:Nat) (x:Str) (v:V),X.N[i]?=some x→σ[i]?=some (some v)→Vis X.env.scope x→∃u,RelV v u∧Look X.env s.heap m x u)
  (hm:∀(i:Nat) (x:Str) (v:V),X.N[i]?=some x→σ[i]?=some (some v)→m' x=m x) (hn:h'.Ns X.env.locals m') (sb:Heap.SameBut X.env.locals s.heap h'):Inv X pins σ H { s with heap:=h',toks:=t' }:=by
 have neL:∀b o,X.s₀.heap.get? b=some o→b≠X.env.locals:=λb o e=>aas (aah (Heap.lt_size e) I.ok.above);have cl:∀y c v,X.env.cells.lookup y=some c→s.heap.IsCell c v→h'.IsCell c v:=λy c v e z=>z.sameBut sb (I.cne y c e);refine ⟨I.ok,I.os,I.bare,⟨λb o e n hb hx=>?_,λb o e n hb hx=>?_,I.base.free,λb o e hx=>?_,I.base.tups,I.base.frzs,I.base.tbls⟩,⟨m',hn,λi x v e1 e2 e3=>?_⟩,λy c e=>?_,I.free,I.freeC,λp hp=>?_,λb u e=>?_,I.len⟩
 ·exact (sb.2 b (neL b o e)).trans (I.base.keep b o e n hb hx)
 ·obtain ⟨sl,e1⟩:=I.base.slot b o e n hb hx;exact ⟨sl,(sb.2 b (neL b o e)).trans e1⟩
 ·obtain ⟨o',e1⟩:=I.base.there b o e hx;exact ⟨o',(sb.2 b (neL b o e)).trans e1⟩
 ·obtain ⟨u,r,l⟩:=hl i x v e1 e2 e3;refine ⟨u,r,?_⟩;rcases l with ⟨k,e⟩ | ⟨k,c,e,z⟩
  ·exact .inl ⟨k,by rw[hm i x v e1 e2];exact e⟩
  ·exact .inr ⟨k,c,e,cl x c _ e z⟩
 ·obtain ⟨v,z⟩:=I.cell y c e;exact ⟨v,cl y c v e z⟩
 ·obtain ⟨e,n,ne,nf,d⟩:=I.pin p hp;exact ⟨(sb.2 p.1 ne).trans e,n,ne,nf,d⟩
 ·refine (I.hok b u e).rq (λc v hc q=>(sb.2 c ?_).trans q) (λ_ q=>q) λ_ _ q=>q;rintro rfl;rcases hc with rfl | hc
  ·rw[I.free] at e;cases e
  ·rw[I.free] at hc;cases hc
theorem Inv.gone {M:Model} {A:Around} {E:Value→Shared→Prop} {i:Nat} {n:Str} {pos:Pos} {Q:Unit→Shared→Prop} (I:Inv X pins σ H s) (hN:X.N.Nodup) (hi:X.N[i]?=some n) (hk:X.env.scope.names.lookup n=some .local)
  (q:∀s',Inv X pins (σ.set i none) H s'→Q () s'):wpAny M A (do bindName X.env n .none;unbindBehindTheSuite X.env n pos) Q E s:=by
 have hcls:(X.env.scope.kind==.class||(X.env.scope.kind==.module&&X.env.locals !=X.env.globals))=false:=by rw[I.ok.kind];rfl
 have hiσ:i < σ.length:=by rw[I.len];exact (List.getElem?_eq_some_iff.mp hi).1
 have wk:∀(j:Nat) v,(σ.set i none)[j]?=some (some v)→j≠i∧σ[j]?=some (some v):=λj v e=>by
  by_cases hj:j=i
  ·subst hj;rw[aco hiσ] at e;cases e
  ·rw[acv (Ne.symm hj)] at e;exact ⟨hj,e⟩
 have I1:Inv X pins (σ.set i none) H s:=I.weak (acf ..) λj v e=>(wk j v e).2;obtain ⟨m,hn,hl⟩:=id I1.loc;refine Iv hk hn hcls λh' m' hn' ho sb=>q _ (I1.locs hl (λj x v e1 e2=>ho x λz=>?_) hn' sb);subst z;exact (wk j v e2).1 (qp hN e1 hi)
noncomputable abbrev Cx.inX (X:Cx) (a:Addr):Cx:={ X with A:=X.A.mark (some (.ref a)),calm:=false }
theorem Cx.Ok.inX {a:Addr} (ok:X.Ok):(X.inX a).Ok:=
 ⟨ok.mod,ok.kind,ok.glob,ok.blt,ok.above,ok.inj,ok.has,ok.cab,λz=>adg z,ok.frames,ok.stk,ok.exf,ok.bs,ok.bsz,ok.noex,ok.exfs,ok.lz,ok.frf⟩
theorem Inv.inX {a:Addr} (I:Inv X pins σ H s):Inv (X.inX a) pins σ H s:=⟨I.ok.inX,I.os,I.bare,I.base,I.loc,I.cell,I.free,I.freeC,I.pin,I.hok,I.len⟩
theorem Inv.outX {a:Addr} (ok:X.Ok) (I:Inv (X.inX a) pins σ H s):Inv X pins σ H s:=⟨ok,I.os,I.bare,I.base,I.loc,I.cell,I.free,I.freeC,I.pin,I.hok,I.len⟩
end
def tTry (K:PySem.W.Frag) (D:Addr) (ie:Nat) (tb:TX) (ts:TS):TS:=λDn σ H=>tb Dn (λcls dx H2=>∃C bm,cls=.ref C∧Xc K C bm∧(Value.ref C::bm).contains (.ref D)=true∧
 ∀a,H2 a=none→ts { nx:=λσ' H'=>Dn.nx (σ'.set ie none) H',rt:=Dn.rt,bk:=λσ' H'=>Dn.bk (σ'.set ie none) H',ct:=λσ' H'=>Dn.ct (σ'.set ie none) H' } (σ.set ie (some (.ref a))) (upd H2 a (XO a C dx false))) σ H
section
variable {X:Cx} {D:Addr} {bD:List Value} {ie:Nat} {n y:Str} {cp hpos tpos:Pos} {body suite:List Stmt} {b₀:Stmt} {tb:TX} {ts:TS}
theorem ps_try (S:yh X) (hN:X.N.Nodup) (hi:X.N[ie]?=some n) (hk:X.env.scope.names.lookup n=some .local) (hf:X.fn n=true) (cD:Xc X.K D bD) (hm:X.mg y=some (.ref D)) (hb:PXS X body tb) (hs:∀a,PSs (X.inX a).nox (b₀::suite) ts)
  (hg:Gl X y:=by rfl) (hdb:(y==("__debug__":Str))=false:=by decide+kernel):PS X (.Try body [.ExceptHandler (some (.Name y cp)) (some n) (b₀::suite) hpos] [] [] tpos) (tTry X.K D ie tb ts):=by
 intro pins s σ H Dn I h;refine wpAny_Try_except (wpAny_mono (hb pins s σ H _ _ I h) (λf s1 q=>?_) λe s1 z=>?_)
 ·cases f with
  | next=>exact wpAny_execs_nil q
  | ret v=>exact q
  | brk=>exact q
  | cont=>exact q
 ·obtain ⟨H1,nn,a,cls,dx,rfl,I1,B,F,C,bm,rfl,c,hc,q⟩:=z;refine B3 I1 B F S rfl rfl λh2 I2 F2=>?_;refine gb I2 B F2 λh3 I3 F3=>?_;have I3':Inv (X.inX a) pins σ H1 { s1 with heap:=h3 }:=I3.inX;refine wpAny_handleBy_cons (codeAny_handlers_test (js I3' hg hm ?_ hdb)) (by intro q;cases q);obtain ⟨oe,vs,f1,f2,f3,f4,f5,T,oT,ts',k1,k2,k3,k4,k5,k6,k7⟩:=F3.ob;refine xmatch (K:=X.K) I3.kIn c cD f1 f2 ?_;rw[hc];refine codeAny_handlers_suite_as (gb I3 B F3 λh4 I4 F4=>?_);obtain ⟨oe,vs,f1,f2,f3,f4,f5,T,oT,ts',k1,k2,k3,k4,k5,k6,k7⟩:=F4.ob;have I5:=I4.track (o:=XO a C dx false) B F4.lo F4.un (XO.mk ⟨oe,vs,f1,f2,f3,f4,λz=>adg z⟩);refine qb I5 hN hi (.inl hk) (v:=.ref a) rfl (λs6 I6=>?_) (.inl hf);refine wpAny_mono (hs a pins s6 _ _ _ (I6.inX.mh _) (q a F4.un)) (λf s7 w=>?_) λ_ _ z=>False.elim z;cases f with
  | next=>
   obtain ⟨σ7,H7,J,w⟩:=w;exact (J.cc.outX I6.ok).gone hN hi hk λs8 J8=>⟨_,H7,J8,w⟩
  | brk=>
   obtain ⟨σ7,H7,J,w⟩:=w;exact (J.cc.outX I6.ok).gone hN hi hk λs8 J8=>⟨_,H7,J8,w⟩
  | cont=>
   obtain ⟨σ7,H7,J,w⟩:=w;exact (J.cc.outX I6.ok).gone hN hi hk λs8 J8=>⟨_,H7,J8,w⟩
  | ret u=>
   obtain ⟨v,σ7,H7,J,r,w⟩:=w;exact (J.cc.outX I6.ok).gone hN hi hk λs8 J8=>⟨v,_,H7,J8,r,w⟩
end
noncomputable def clBody (s:Stmt):List Stmt:=match s with
 | .ClassDef _ _ _ b _ _ _ _ _ _ _=>b
 | _=>[]
def HasI (P:Program) (w:World) (K:PySem.W.Frag) (mg:Str→Option Value) (base:Heap) (k:Nat) (C:Addr) (ps:List Str) (sp:Sp):Prop:=
 ∃(f:Addr) (fd:FuncData),PySem.W.findIn K (.ref C) "__init__"=some (some (.ref f))∧PySem.W.typeIn K (.ref f)=some (.type "function")∧h9 P w K mg base CX0 k f fd ps sp∧Binds K fd ps []
def lu (C:Addr) (f:Str):Sp:=λvs H Q _=>∃(a:Addr) (v:V),vs=[.ref a,v]∧H a=some (XO a C none true)∧∀dx,H dx=none→dx≠a→Q .non (upd (upd H dx (XD dx [(f,v)])) a (XO a C (some dx) true))
section
variable {X:Cx} {E:XK} {k:Nat} {C:Addr} {bm:List Value} {ps:List Str} {sp:Sp} {x:Str} {p cpos pos:Pos} {e:Expr} {es:List Expr} {t:TA}
theorem ux (c:Xc X.K C bm) (h:HasI X.prog X.w X.K X.mg X.base k C ps sp) (hr:cv (k+1) X.A) (hps:ps.length≤100) (hm:X.mg x=some (.ref C)) (ha:PA (X.xp E) (e::es) t) (hg:Gl X x:=by rfl) (hdb:(x==("__debug__":Str))=false:=by decide+kernel)
  (he:starEach (e::es) X.env=(false,eval e X.env)::starEach es X.env:=by rfl) (hpl:(backTo cpos (starEach es X.env)).any (·.1)=false:=by rfl):
  PS (X.xp E) (.Raise (some (.Call (.Name x p) (e::es) [] cpos)) none pos) (wj C sp E t):=by
 obtain ⟨f,fd,h1,h2,F,b⟩:=h;exact Gw c h1 h2 F hr hps hm b ha hg hdb he hpl
theorem Lf (h:i6 X.prog X.w X.K X.mg X.base k x ps sp) (hr:cv k X.A) (ha:PA X (e::es) t) (hg:Gl X x:=by rfl) (hdb:(x==("__debug__":Str))=false:=by decide+kernel)
  (he:starEach (e::es) X.env=(false,eval e X.env)::starEach es X.env:=by rfl) (hpl:(backTo pos (starEach es X.env)).any (·.1)=false:=by rfl):
  PE X (.Call (.Name x p) (e::es) [] pos) (zo sp [] E0 t):=by
 obtain ⟨f,fd,F,b,kp,m⟩:=h;refine xt F hr hg m kp b .nil ?_ ha hdb he hpl;rintro pins σ H s e s' I ⟨H',a,cls,dx,rfl,os,bare,un,hok,F,q⟩;exact q.elim
end
theorem J3 {C:Addr} {f:Str} {E:XK} {t:TA} {D:Ends} {σ:St} {H:Hp} {v:V} (h:∀Q:List V→Hp→Prop,Q [v] H→t σ H Q) (q:∀dx H',ao H H'→H' dx=some (XD dx [(f,v)])→E (.ref C) (some dx) H'):wj C (lu C f) E t D σ H:=by
 refine h _ λa ha=>?_;refine ⟨a,v,rfl,aa,λdx hd ne=>⟨rfl,some dx,aa,q dx _ ?_ ?_⟩⟩
 ·intro b o hb;have n1:b≠a:=aq hb ha;have n2:b≠dx:=λz=>by subst z;rw[ai n1] at hd;rw[hd] at hb;cases hb
  rw[gc n1,ai n1,ai n2,ai n1];exact hb
 ·rw[gc ne,ai ne,aa]
end L2
namespace Pc
open PySem PySem.Spec L2 PyProof.Rows
structure Cl where
 cov:Addr
 noTerm:Addr
 noBox:Addr
 badCover:Addr
 noCover:Addr
 badRow:Addr
 noValue:Addr
 twice:Addr
 noName:Addr
 badShape:Addr
 badDeed:Addr
 unsound:Addr
noncomputable def Cl.all (c:Cl):List Addr:=[c.cov,c.noTerm,c.noBox,c.badCover,c.noCover,c.badRow,c.noValue,c.twice,c.noName,c.badShape,c.badDeed,c.unsound]
noncomputable abbrev vbm:List Value:=[.type "ValueError",.type "Exception",.type "BaseException",.type "object"]
noncomputable abbrev cbm (c:Cl):List Value:=.ref c.cov::vbm
structure Errs (K:PySem.W.Frag) (mg:Str→Option Value) (c:Cl):Prop where
 nd:c.all.Nodup
 m_cov:mg "CoverError"=some (.ref c.cov)
 m_noTerm:mg "NoTerm"=some (.ref c.noTerm)
 m_noBox:mg "NoBox"=some (.ref c.noBox)
 m_badCover:mg "BadCover"=some (.ref c.badCover)
 m_noCover:mg "NoCover"=some (.ref c.noCover)
 m_badRow:mg "BadRow"=some (.ref c.badRow)
 m_noValue:mg "NoValue"=some (.ref c.noValue)
 m_twice:mg "Twice"=some (.ref c.twice)
 m_noName:mg "NoName"=some (.ref c.noName)
 m_badShape:mg "BadShape"=some (.ref c.badShape)
 m_badDeed:mg "BadDeed"=some (.ref c.badDeed)
 m_unsound:mg "Unsound"=some (.ref c.unsound)
 x_cov:Xc K c.cov vbm
 x_noTerm:Xc K c.noTerm (cbm c)
 x_noBox:Xc K c.noBox (cbm c)
 x_badCover:Xc K c.badCover (cbm c)
 x_noCover:Xc K c.noCover (cbm c)
 x_badRow:Xc K c.badRow (cbm c)
 x_noValue:Xc K c.noValue (cbm c)
 x_twice:Xc K c.twice (cbm c)
 x_noName:Xc K c.noName (cbm c)
 x_badShape:Xc K c.badShape (cbm c)
 x_badDeed:Xc K c.badDeed (cbm c)
 x_unsound:Xc K c.unsound (cbm c)
 r_cov:PySem.W.readsIn K c.cov (.type "type")=true
 t_cov:PySem.W.typeIn K (.ref c.cov)=some (.type "type")
 f_cov:PySem.W.findCls K (.ref c.cov) (.type "type") "__init__"=some (.val (.builtin "ValueError.__init__"))
theorem Xc.mk' {K:PySem.W.Frag} {C:Addr} {bm:List Value} {nm q:Str} {N:Addr} {bs:List Value} {sn:List Str} {sub:List Value} {ab:Bool} {col:Option Bool} {dd:Option Addr} {k0 k1 k2 k3 k5:Option Value}
  (lk:K.lookup C=some (excClassObj nm q C N bs bm true sn sub ab col dd k0 k1 k2 k3 k5 "ValueError.__new__")) (kp:PySem.W.keepIn K (.ref C)=true) (fs:PySem.W.findIn K (.ref C) "__setattr__"=some (some (.builtin "object.__setattr__")))
  (fg:PySem.W.findIn K (.ref C) "__getattribute__"=some (some (.builtin "BaseException.__getattribute__"))) (fh:PySem.W.findIn K (.ref C) "__getattr__"=some none) (fc:PySem.W.findIn K (.ref C) "__class__"=some (some (.builtin "object.__class__")))
  (hb:bm=vbm∨∃D,bm=.ref D::vbm):Xc K C bm where
 lk:=⟨_,_,_,_,_,_,_,_,_,_,_,_,_,_,lk⟩
 hv:=by rcases hb with rfl | ⟨D,rfl⟩ <;> rfl
 hb:=by rcases hb with rfl | ⟨D,rfl⟩ <;> rfl
 ha:=by rcases hb with rfl | ⟨D,rfl⟩ <;> rfl
 hn:=by rcases hb with rfl | ⟨D,rfl⟩ <;> rfl
 ho:=by rcases hb with rfl | ⟨D,rfl⟩ <;> rfl
 kp:=kp
 sa:=λself=>by
  rcases hb with rfl | ⟨D,rfl⟩
  ·exact PySem.F.store_ValueError.passes self
  ·rw[refuseLoop_ref];exact PySem.F.store_ValueError.passes self
 fs:=fs
 fg:=fg
 fh:=fh
 fc:=fc
theorem isC {c:Cl} {C D:Addr}:(Value.ref C::cbm c).contains (.ref D)=(decide (D=C)||decide (D=c.cov)):=by
 rw[ab2,ab2];have e1:(Value.ref D==Value.ref C)=decide (D=C):=by
  by_cases h:D=C
  ·rw[h,decide_eq_true rfl];simp
  ·rw[decide_eq_false h];exact Bool.eq_false_iff.mpr λz=>h (Value.ref.inj (beq_iff_eq.mp z))
 have e2:(Value.ref D==Value.ref c.cov)=decide (D=c.cov):=by
  by_cases h:D=c.cov
  ·rw[h,decide_eq_true rfl];simp
  ·rw[decide_eq_false h];exact Bool.eq_false_iff.mpr λz=>h (Value.ref.inj (beq_iff_eq.mp z))
 have e3:(vbm.contains (Value.ref D))=false:=rfl;rw[e1,e2,e3,adv]
theorem anyC {c:Cl} {C:Addr} {cs:List Addr} (h:∀D∈cs,D≠C∧D≠c.cov):(cs.any λD=>(Value.ref C::cbm c).contains (.ref D))=false:=by
 rw[ae3];intro D hD;rw[isC,decide_eq_false (h D hD).1,decide_eq_false (h D hD).2];decide
theorem Errs.ne {K:PySem.W.Frag} {mg:Str→Option Value} {κ:Cl} (er:Errs K mg κ) (i j:Nat) {C D:Addr} (hi:κ.all[i]?=some D) (hj:κ.all[j]?=some C) (hij:i≠j):D≠C:=λe=>by
 subst e;obtain ⟨h1,e1⟩:=List.getElem?_eq_some_iff.mp hi;obtain ⟨h2,e2⟩:=List.getElem?_eq_some_iff.mp hj;exact hij ((ae9 er.nd).mp (e1.trans e2.symm))
theorem vn:bootBuiltins "ValueError"=some (.type "ValueError"):=by decide+kernel
end Pc
namespace L2
open PySem PySem.Spec PyProof.Rows Srt
theorem Ee:bootBuiltins "max"=some (.builtin "max"):=by decide+kernel
end L2
namespace L2
open PySem PySem.Spec PyProof.Rows PySem.SeqAt
theorem b_min:bootBuiltins "min"=some (.builtin "min"):=by decide+kernel
end L2
namespace L2
open PySem PySem.Spec PyProof.Rows
section
variable {X:Cx}
def Ey:V→List V→Hp→VK→Prop:=λx vs H Q=>∃(l:Addr) (xs:List V) (i:Int) (y:V),x=.ref l∧vs=[.int i,y]∧H l=some (.lst xs)∧0≤i∧i≤xs.length∧xs.length < sizeLine∧Q .non (upd H l (.lst (xs.take i.toNat++y::xs.drop i.toNat)))
theorem G1:MtM X "list.insert" Ey:=by
 intro pins s σ H x vs v us Q I rx rv h;obtain ⟨l,xs,i,y,rfl,rfl,hH,h0,hi,hz,q⟩:=h;cases rx
 obtain ⟨u,w,rfl,ru,rw'⟩:=rv.two;obtain ⟨t,rfl⟩:=ru;obtain ⟨z,its,n,r,hl,e⟩:=I.lstM hH;have hlen:=r.length;have sz:=sizeLine_eq;have f1:Builtin.List.listFitsIndex i=true:=fitsIndex_both (by omega) (by omega);have hf:¬(!Builtin.List.listFitsIndex i)=true:=by rw[f1];decide
 have hs:its.toArray.size≤sizeLine:=by rw[aae];omega
 refine call_meets F.slot_list_insert ⟨_,e,rfl⟩ F.entry_list_insert (F.args_list_insert_3 _ _ _) (AutoSeq1.list_insert_list_int_val_1 l its.toArray n i t w hf hs) ⟨e,?_⟩;refine ⟨.non,_,I.lset (its':=its.take i.toNat++w::its.drop i.toNat) hH e ?_ ((r.take i.toNat).append (.cons rw' (r.drop i.toNat))) ?_,rfl,q⟩
 ·show (its.toArray.extract 0 (if i < 0 then (i+(its.toArray.size:Int)).toNat else min i.toNat its.toArray.size)).push w++its.toArray.extract (if i < 0 then (i+(its.toArray.size:Int)).toNat else min i.toNat its.toArray.size)=_
  rw[if_neg (by omega),aae,adn (by omega)];simp;exact ac5 (by rw[aaf];omega)
 ·rw[aa4,aa8,aaa,aaf];omega
theorem Gy {H:Hp} {l:Addr} {xs:List V} {i:Int} {y:V} {Q:VK} (h:H l=some (.lst xs)) (h0:0≤i) (hi:i≤xs.length) (hz:xs.length < sizeLine) (q:Q .non (upd H l (.lst (xs.take i.toNat++y::xs.drop i.toNat)))):Ey (.ref l) [.int i,y] H Q:=⟨l,xs,i,y,rfl,rfl,h,h0,hi,hz,q⟩
end
end L2
namespace Nd
open PySem PySem.Spec L2 PyProof.Rows Pc Bk
noncomputable def cpL (z:Str):List Nat:=z.cps.toList
theorem ic (a b:Str):cpL (a++b)=cpL a++cpL b:=acd
theorem Ea (k:Int):∃c:Nat,atI sf.cps.toList (k % 26)=some (97+c)∧(c:Int)=k % 26:=by
 have h0:0≤k % 26:=abh _ (by decide);have h1:k % 26 < 26:=abq _ (by decide);obtain ⟨n,hn⟩:∃n:Nat,k % 26=(n:Int):=⟨(k % 26).toNat,by omega⟩;rw[hn] at h1 ⊢;have hl:∀n:_root_.Fin 26,sf.cps.toList[n.val]?=some (97+n.val):=by decide+kernel
 exact ⟨n,ay (hl ⟨n,by omega⟩),rfl⟩
theorem Kl {f:Nat→Str} {n:Nat} (h:∀i j,i < j→j < n→f i≠f j):((abf n).map f).Nodup:=by
 refine List.pairwise_map.mpr (List.pairwise_iff_getElem.mpr λi j hi hj hij=>?_);rw[adz,adz];rw[acm] at hj;exact h i j hij hj
noncomputable def nmZ (A B:Str) (sh:Int) (k:Nat):Str:=A++((⟨#[97+(((k:Int)+sh) % 26).toNat]⟩:Str)++⟨#[97+(((k:Int) / 26+sh) % 26).toNat]⟩)++B
noncomputable def nmN (A B:Str) (sh:Int) (k:Nat):Str:=if inV (.str (nmZ A B sh k)) i3=true then nmZ A B sh k++Str.ofString "x" else nmZ A B sh k
theorem nmN_nd (A B:Str) (sh:Int):((abf 48).map (nmN A B sh)).Nodup:=by
 refine Kl λi j hij hj e=>?_;have h1:∀k,∃T,cpL (nmN A B sh k)=cpL A++((97+(((k:Int)+sh) % 26).toNat)::((97+(((k:Int) / 26+sh) % 26).toNat)::T)):=λk=>by
  unfold nmN;split
  ·refine ⟨cpL B++cpL (Str.ofString "x"),?_⟩;unfold nmZ;rw[ic,ic,ic,ic];simp[cpL]
  ·refine ⟨cpL B,?_⟩;unfold nmZ;rw[ic,ic,ic];simp[cpL]
 obtain ⟨T1,e1⟩:=h1 i;obtain ⟨T2,e2⟩:=h1 j;rw[e,e2] at e1;have e3:=List.append_cancel_left e1;have e4:=(ab5 e3).1;have e5:=(ab5 (ab5 e3).2).1;have q1:((i:Int)+sh) % 26=((j:Int)+sh) % 26:=by omega
 have q2:((i:Int) / 26+sh) % 26=((j:Int) / 26+sh) % 26:=by omega
 clear e e1 e2 e3 e4 e5 h1;have q3:(j:Int)=i+26:=by omega
 have q4:(i:Int) / 26=0:=by omega
 have q5:(j:Int) / 26=1:=by omega
 rw[q4,q5] at q2;omega
end Nd
namespace Bd
open PySem PySem.Spec L2 PyProof.Rows Pc Bk
noncomputable def bo (ws:List Str):Bool:=kindB ws||eg ws||gu ws
noncomputable def S (z:String):Str:=Str.ofString z
inductive GR:List Str→Prop
 | kind (n:Str) (hn:ax n=true):GR [S "kind",n]
 | rule (n k p:Str) (ws:List Str) (h12:ws.length≤12) (h1:1≤ws.length):GR (S "rule"::n::k::p::S "="::ws)
 | does (n:Str) (d:List Str) (hd:ff d=true):GR (S "does"::n::d)
 | none:GR [S ""]
theorem GR.of {r:Rw} (h:r.ok):GR (r.tx.map ag):=by
 cases r with
 | kind n=>exact .kind n h
 | rule n k p ws=>exact .rule n k _ _ (by rw[aa2];exact h.2.2.2.2.2.1) (by rw[aa2];exact h.2.2.2.2.1)
 | does n d=>exact .does n _ (yk h.2)
 | none=>exact .none
theorem i9 {d:List Str} (h:ff d=true):3≤d.length∧d.length=2+arQ (d.getD 0 ""):=by
 unfold ff at h;simp only[abb,decide_eq_true_eq] at h;exact ⟨h.1.1.1,h.1.2⟩
theorem dne:decide (S "kind"=S "rule")=false∧decide (S "kind"=S "does")=false∧decide (S "rule"=S "kind")=false∧decide (S "rule"=S "does")=false∧decide (S "does"=S "kind")=false∧decide (S "does"=S "rule")=false:=by decide+kernel
theorem jn {ws:List Str} (h1:ws.getD 0 ""≠S "kind") (h2:ws.getD 0 ""≠S "rule") (h3:ws.getD 0 ""≠S "does"):bo ws=false:=by
 have k:kindB ws=false:=by
  unfold kindB;rw[show decide (ws.getD 0 ""=("kind":Str))=false from decide_eq_false h1,aal,aa7]
 have r:eg ws=false:=by
  unfold eg;rw[show decide (ws.getD 0 ""=("rule":Str))=false from decide_eq_false h2,aal,aa7,aa7]
 have d:gu ws=false:=by
  unfold gu;rw[show decide (ws.getD 0 ""=("does":Str))=false from decide_eq_false h3,aal,aa7,aa7]
 unfold bo;rw[k,r,d];rfl
theorem lp {t:List Str} (h:t.length≠1∨ax (t.getD 0 "")=false):bo (S "kind"::t)=false:=by
 have k:kindB (S "kind"::t)=false:=by
  unfold kindB;rcases h with h | h
  ·rw[decide_eq_false (show ¬(S "kind"::t).length=2 by rw[aa8];omega),aa7,aa7]
  ·rw[show ax ((S "kind"::t).getD 1 "")=false from h,aal]
 have r:eg (S "kind"::t)=false:=by
  unfold eg;rw[show decide ((S "kind"::t).getD 0 ""=("rule":Str))=false from dne.1,aal,aa7,aa7]
 have d:gu (S "kind"::t)=false:=by
  unfold gu;rw[show decide ((S "kind"::t).getD 0 ""=("does":Str))=false from dne.2.1,aal,aa7,aa7]
 unfold bo;rw[k,r,d];rfl
theorem cb {t:List Str} (h:eg (S "rule"::t)=false):bo (S "rule"::t)=false:=by
 have k:kindB (S "rule"::t)=false:=by
  unfold kindB;rw[show decide ((S "rule"::t).getD 0 ""=("kind":Str))=false from dne.2.2.1,aal,aa7]
 have d:gu (S "rule"::t)=false:=by
  unfold gu;rw[show decide ((S "rule"::t).getD 0 ""=("does":Str))=false from dne.2.2.2.1,aal,aa7,aa7]
 unfold bo;rw[k,h,d];rfl
theorem dc {t:List Str} (h:ax (t.getD 0 "")=false∨ff (t.drop 1)=false):bo (S "does"::t)=false:=by
 have k:kindB (S "does"::t)=false:=by
  unfold kindB;rw[show decide ((S "does"::t).getD 0 ""=("kind":Str))=false from dne.2.2.2.2.1,aal,aa7]
 have r:eg (S "does"::t)=false:=by
  unfold eg;rw[show decide ((S "does"::t).getD 0 ""=("rule":Str))=false from dne.2.2.2.2.2,aal,aa7,aa7]
 have d:gu (S "does"::t)=false:=by
  unfold gu;rcases h with h | h
  ·rw[show ax ((S "does"::t).getD 1 "")=false from h,aal,aa7]
  ·rw[show ff ((S "does"::t).drop 2)=false from h,aal]
 unfold bo;rw[k,r,d];rfl
theorem dg {d:List Str} (h:d.length≠2+arQ (d.getD 0 "")):ff d=false:=by
 unfold ff;rw[decide_eq_false h,aal,aa7]
theorem jg {a b c e:Str} {ws:List Str} (h:ws.length=0∨12 < ws.length∨∃w∈ws,shB w=false):eg (S "rule"::a::b::c::e::ws)=false:=by
 unfold eg;show (decide (1≤ws.length)&&decide (ws.length≤12)&&_&&_&&ws.all shB)=false
 rcases h with h | h | ⟨w,hw,h⟩
 ·rw[decide_eq_false (by omega)];simp only[aa7]
 ·rw[decide_eq_false (show ¬ws.length≤12 by omega)];simp only[aa7,aal]
 ·rw[show ws.all shB=false from List.all_eq_false.mpr ⟨w,hw,by rw[h];decide⟩,aal]
theorem bw:ax (S "")=false∧dh (S "")=false∧S ""≠S "="∧arQ (S "")=0∧shB (S "")=false∧S ""≠S "kind"∧S ""≠S "rule"∧S ""≠S "does":=by decide+kernel
theorem dy {a b c e:Str} {ws:List Str} (h:ax a=false∨ax b=false∨dh c=false∨e≠S "="):eg (S "rule"::a::b::c::e::ws)=false:=by
 unfold eg;show (_&&(ax a&&ax b&&dh c&&decide (e=("=":Str)))&&_)=false
 have:(ax a&&ax b&&dh c&&decide (e=("=":Str)))=false:=by
  rcases h with h | h | h | h
  ·rw[h];simp only[aa7]
  ·rw[h];simp only[aa7,aal]
  ·rw[h];simp only[aa7,aal]
  ·rw[decide_eq_false (show ¬e=("=":Str) from h),aal]
 rw[this,aal,aa7]
theorem qt {ws xs:List Str} (g:GR ws) (hx:xs≠[]) (h:ws.getD 0 ""=S "rule"→(∃w∈xs,shB w=false)∨12≤xs.length):bo (ws++xs)=false:=by
 have xl:0 < xs.length:=List.length_pos_iff.mpr hx;cases g with
 | kind n hn=>exact lp (t:=n::xs) (.inl (by rw[aa8];omega))
 | rule n k p ws h12 h1=>
  refine cb (jg ?_);rcases h rfl with ⟨w,hw,hb⟩ | h
  ·exact .inr (.inr ⟨w,aai _ hw,hb⟩)
  ·exact .inr (.inl (by show 12 < (ws++xs).length;rw[aa4];omega))
 | does n d hd=>
  obtain ⟨d3,dl⟩:=i9 hd;refine dc (t:=n::(d++xs)) (.inr (dg ?_));show (d++xs).length≠2+arQ ((d++xs).getD 0 "")
  have e:(d++xs).getD 0 ""=d.getD 0 "":=by
   rw[aam,aam,ab6 (by omega)]
  rw[e,aa4];omega
 | none=>exact jn bw.2.2.2.2.2.1 bw.2.2.2.2.2.2.1 bw.2.2.2.2.2.2.2
theorem G2 {ws:List Str} (g:GR ws) (h:1 < ws.length):bo (ws.take (if ws.getD 0 ""=S "rule" then 5 else ws.length - 1))=false:=by
 cases g with
 | kind n hn=>exact lp (t:=[]) (.inl (by decide))
 | rule n k p ws h12 h1=>exact cb (t:=[n,k,p,S "="]) (jg (ws:=[]) (.inl rfl))
 | does n d hd=>
  obtain ⟨d3,dl⟩:=i9 hd;rw[if_neg (show ¬(S "does"::n::d).getD 0 ""=S "rule" from λe=>absurd e (of_decide_eq_false dne.2.2.2.2.2))];have e:(S "does"::n::d).take ((S "does"::n::d).length - 1)=S "does"::n::d.take (d.length - 1):=by
   rw[aa8,aa8,show d.length+1+1 - 1=(d.length - 1)+1+1 by omega];rfl
  rw[e];refine dc (t:=n::d.take (d.length - 1)) (.inr (dg ?_));show (d.take (d.length - 1)).length≠2+arQ ((d.take (d.length - 1)).getD 0 "")
  have e:(d.take (d.length - 1)).getD 0 ""=d.getD 0 "":=by
   rw[aam,aam,abk (by omega)]
  rw[e,aaa];omega
 | none=>exact absurd h (by decide)
theorem G4 {ws:List Str} (g:GR ws) {at':Nat} (h1:1≤at') (h2:at' < ws.length):bo (ws.take at'++S ""::ws.drop at')=false:=by
 obtain ⟨e1,e2,e3,e4,e5,_⟩:=bw;cases g with
 | kind n hn=>
  obtain rfl:at'=1:=by
   have:at' < 2:=h2;omega
  exact lp (t:=[S "",n]) (.inl (show (2:Nat)≠1 by decide))
 | rule n k p ws h12 hw1=>
  match at',h1 with
  | 1,_=>exact cb (dy (a:=S "") (b:=n) (c:=k) (e:=p) (ws:=S "="::ws) (.inl e1))
  | 2,_=>exact cb (dy (a:=n) (b:=S "") (c:=k) (e:=p) (ws:=S "="::ws) (.inr (.inl e1)))
  | 3,_=>exact cb (dy (a:=n) (b:=k) (c:=S "") (e:=p) (ws:=S "="::ws) (.inr (.inr (.inl e2))))
  | 4,_=>exact cb (dy (a:=n) (b:=k) (c:=p) (e:=S "") (ws:=S "="::ws) (.inr (.inr (.inr e3))))
  | m+5,_=>exact cb (jg (a:=n) (b:=k) (c:=p) (e:=S "=") (ws:=ws.take m++S ""::ws.drop m) (.inr (.inr ⟨S "",aai _ aa6,e5⟩)))
 | does n d hd=>
  obtain ⟨d3,dl⟩:=i9 hd;match at',h1 with
  | 1,_=>exact dc (t:=S ""::n::d) (.inl e1)
  | 2,_=>
   refine dc (t:=n::S ""::d) (.inr (dg ?_));show d.length+1≠2+arQ (S "")
   rw[e4];omega
  | m+3,_=>
   have hm:m+1 < d.length:=by
    have:m+3 < d.length+1+1:=h2;omega
   refine dc (t:=n::(d.take (m+1)++S ""::d.drop (m+1))) (.inr (dg ?_));show (d.take (m+1)++S ""::d.drop (m+1)).length≠2+arQ ((d.take (m+1)++S ""::d.drop (m+1)).getD 0 "")
   have e:(d.take (m+1)++S ""::d.drop (m+1)).getD 0 ""=d.getD 0 "":=by
    rw[aam,aam,ab6 (by rw[aaa];omega),abk (by omega)]
   rw[e,aa4,aaa,aa8,aaf];omega
 | none=>
  have:at' < 1:=h2;omega
def Er (ws:List Str) (at':Nat) (w:Str):Prop:=
 ((at'=1∨(ws.getD 0 ""=S "rule"∧at'=2))→ax w=false)∧
 (ws.getD 0 ""=S "rule"→(at'=3→dh w=false)∧(at'=4→w≠S "=")∧(5≤at'→shB w=false))∧
 (ws.getD 0 ""=S "does"→(at'=2→arQ w=0)∧(at'=3→j9 w=false)∧(4≤at'→dr (ws.getD 2 "") w=false))
theorem J1 {ws:List Str} (g:GR ws) {at':Nat} (h1:1≤at') (h2:at' < ws.length) {w:Str} (hb:Er ws at' w):bo (ws.take at'++w::ws.drop (at'+1))=false:=by
 obtain ⟨b1,b2,b3⟩:=hb;cases g with
 | kind n hn=>
  obtain rfl:at'=1:=by
   have:at' < 2:=h2;omega
  exact lp (t:=[w]) (.inr (b1 (.inl rfl)))
 | rule n k p ws h12 hw1=>
  obtain ⟨c3,c4,c5⟩:=b2 rfl;match at',h1 with
  | 1,_=>exact cb (dy (a:=w) (b:=k) (c:=p) (e:=S "=") (ws:=ws) (.inl (b1 (.inl rfl))))
  | 2,_=>exact cb (dy (a:=n) (b:=w) (c:=p) (e:=S "=") (ws:=ws) (.inr (.inl (b1 (.inr ⟨rfl,rfl⟩)))))
  | 3,_=>exact cb (dy (a:=n) (b:=k) (c:=w) (e:=S "=") (ws:=ws) (.inr (.inr (.inl (c3 rfl)))))
  | 4,_=>exact cb (dy (a:=n) (b:=k) (c:=p) (e:=w) (ws:=ws) (.inr (.inr (.inr (c4 rfl)))))
  | m+5,_=>exact cb (jg (a:=n) (b:=k) (c:=p) (e:=S "=") (ws:=ws.take m++w::ws.drop (m+1)) (.inr (.inr ⟨w,aai _ aa6,c5 (by omega)⟩)))
 | does n d hd=>
  obtain ⟨c2,c3,c4⟩:=b3 rfl;obtain ⟨d3,dl⟩:=i9 hd;match at',h1 with
  | 1,_=>exact dc (t:=w::d) (.inl (b1 (.inl rfl)))
  | 2,_=>
   refine dc (t:=n::w::d.drop 1) (.inr (dg ?_));show (d.drop 1).length+1≠2+arQ w
   rw[c2 rfl,aaf];omega
  | 3,_=>
   refine dc (t:=n::(d.take 1++w::d.drop 2)) (.inr ?_);match d,d3 with
   | x::y::r,_=>
    show ff (x::w::r)=false
    unfold ff;rw[show j9 ((x::w::r).getD 1 "")=false from c3 rfl,aal,aa7,aa7]
  | m+4,_=>
   refine dc (t:=n::(d.take (m+2)++w::d.drop (m+3))) (.inr ?_);match d,d3 with
   | x::y::r,_=>
    show ff (x::y::(r.take m++w::r.drop (m+1)))=false
    have c:dr x w=false:=c4 (by omega);unfold ff;show (_&&((r.take m++w::r.drop (m+1)).all λz=>dr x z))=false
    rw[show ((r.take m++w::r.drop (m+1)).all λz=>dr x z)=false from List.all_eq_false.mpr ⟨w,aai _ aa6,by rw[c];decide⟩,aal]
 | none=>
  have:at' < 1:=h2;omega
def PW (w:Str):Prop:=Di w∧w.length≤100∧∀c∈w.cps.toList,c≠32∧c≠10
noncomputable def pwB (w:Str):Bool:=(!cg w||(PySem.intText? w).isSome)&&decide (w.length≤100)&&w.cps.toList.all λc=>decide (c≠32)&&decide (c≠10)
theorem PW.of {w:Str} (h:pwB w=true):PW w:=by
 unfold pwB at h;simp only[abb,decide_eq_true_eq,ac8] at h;obtain ⟨⟨h1,h2⟩,h3⟩:=h;refine ⟨λhn=>?_,h2,h3⟩;rw[hn] at h1;exact Option.isSome_iff_exists.mp (by simpa using h1)
theorem PW.tx {r:Rw} (h:r.ok):∀w∈r.tx.map ag,PW w:=by
 by_cases f:r.full=true
 ·intro w hw;obtain ⟨v,hv,rfl⟩:=List.mem_map.mp hw;have hwd:=Rw.wd h f v hv;have t:=hwd.text;refine ⟨λhn=>?_,by omega,λc hc=>by have:=t.2.2 c hc;omega⟩;cases v with
  | int i=>exact ⟨i,(dz hwd).2.1⟩
  | str z=>exact absurd (show cg z=true from hn) (by rw[hwd.1];decide)
  | _=>exact hwd.elim
 ·cases r with
  | none=>
   intro w hw;rw[show (Rw.none.tx.map ag)=[S ""] from rfl,ad2] at hw;rw[hw];exact PW.of (by decide+kernel)
  | _=>exact absurd rfl f
theorem Bp (a b c:Str):a++b++c=a++(b++c):=by
 cases a
 cases b
 cases c
 exact congrArg Str.mk (ady ..)
theorem Jr (s:Str):∀(a b:List Str),a≠[]→b≠[]→Str.join s (a++b)=Str.join s a++s++Str.join s b
 | [],_,h,_=>absurd rfl h
 | _,[],_,h=>absurd rfl h
 | [x],y::r,_,_=>rfl
 | x::x'::a,y::r,_,h=>by
  show x++s++Str.join s ((x'::a)++(y::r))=(x++s++Str.join s (x'::a))++s++Str.join s (y::r)
  rw[Jr s (x'::a) (y::r) (by simp) (by simp)];simp only[Bp]
theorem Ac (zs:List Str):Txt.join " " zs=Str.join (S " ") zs:=StrLaws.glued_eq_join _ zs
theorem fj {a b:List Str} (ha:a≠[]) (hb:b≠[]):Txt.join " " (a++b)=Txt.join " " a++S " "++Txt.join " " b:=by
 rw[Ac,Ac,Ac];exact Jr _ a b ha hb
theorem join_one (x:Str):Txt.join " " [x]=x:=by
 rw[Ac];rfl
theorem jlen {ws:List Str} (h:∀w∈ws,PW w) (hl:ws.length≤40):(ws.map (·.length)).sum+ws.length*(S " ").length≤5000∧(Txt.join " " ws).length≤5000:=by
 have h1:(ws.map (·.length)).sum≤100*ws.length:=by
  clear hl;induction ws with
  | nil=>exact aa3 _
  | cons x r ih=>
   rw[aao,ad6,aa8];have:=(h x aa6).2.1;have:=ih λw hw=>h w (aab _ hw);omega
 have h2:=join_le (S " ") ws;rw[show (S " ").length=1 by decide+kernel] at h2 ⊢;have h2:(Txt.join " " ws).length≤_:=h2;omega
theorem gz {r:Rw} (h:r.ok):Txt.split r.line " "=r.tx.map ag∧1≤(r.tx.map ag).length∧(r.tx.map ag).length≤17:=by
 have l:=Rw.txl h;refine ⟨g7 _ (λe=>?_) (λx hx=>λhc=>((PW.tx h x hx).2.2 32 hc).1 rfl),by rw[aa2];omega,?_⟩
 ·rw[List.map_eq_nil_iff] at e;rw[e] at l;exact absurd l.1 (by decide)
 ·rw[aa2];cases r with
  | kind n=>show 2≤17;decide
  | rule n k p ws=>
   have:=h.2.2.2.2.2.1;show ws.length+1+1+1+1+1≤17
   omega
  | does n d=>
   have:=dw h.2;show d.length+1+1≤17
   omega
  | none=>show 1≤17;decide
structure BadL (y:Str):Prop where
 ex:∃ws:List Str,y=Txt.join " " ws∧bo ws=false∧ws.length≤40∧ws≠[]∧(∀w∈ws,PW w)∧y≠""
theorem BadL.of {ws:List Str} (h:bo ws=false) (hl:ws.length≤40) (hp:∀w∈ws,PW w) (hn:2≤ws.length∨∃w,ws=[w]∧w≠""):BadL (Txt.join " " ws):=by
 have ne:ws≠[]:=by
  rcases hn with h | ⟨w,rfl,_⟩
  ·intro e;rw[e] at h;exact absurd h (by decide)
  ·simp
 refine ⟨ws,rfl,h,hl,ne,hp,λe=>?_⟩;rcases hn with h | ⟨w,rfl,hw⟩
 ·match ws,h with
  | x::y::r,_=>
   have:=congrArg Str.length e;rw[show x::y::r=[x]++(y::r) from rfl,fj (by simp) (by simp)] at this;have l1:∀a b:Str,(a++b).length=a.length+b.length:=λa b=>abu;rw[l1,l1,show (S " ").length=1 by decide+kernel,show (Str.ofString "").length=0 by decide+kernel] at this;omega
 ·rw[join_one] at e;exact hw e
noncomputable def b6:Nat→List Str→List (Nat×List Str)
 | _,[]=>[]
 | k,y::r=>(if y="" then [] else [(k,Txt.split y " ")])++b6 (k+1) r
theorem pf:∀(as bs:List Str) (k:Nat),b6 k (as++bs)=b6 k as++b6 (k+as.length) bs
 | [],bs,k=>rfl
 | x::as,bs,k=>by
  show (if x="" then [] else [(k,Txt.split x " ")])++b6 (k+1) (as++bs)=((if x="" then [] else [(k,Txt.split x " ")])++b6 (k+1) as)++_
  rw[pf as bs,acn,show k+1+as.length=k+(x::as).length by rw[aa8];omega]
theorem Fj (y:Str) (ys:List Str) (k:Nat):b6 k (ys++[y])=b6 k ys++(if y="" then [] else [(k+ys.length,Txt.split y " ")]):=by
 rw[pf];congr 1
 show (if y="" then [] else [(k+ys.length,Txt.split y " ")])++[]=_
 rw[aaq]
theorem ow:∀(ys:List Str) (k:Nat),(b6 k ys).length≤ys.length
 | [],_=>aa3 _
 | y::r,k=>by
  show ((if y="" then [] else [(k,Txt.split y " ")])++b6 (k+1) r).length≤r.length+1
  have:=ow r (k+1);rw[aa4];split
  ·rw[abg];omega
  ·rw[abj];omega
theorem pd:∀(ys:List Str) (k:Nat) (r:Nat×List Str),r∈b6 k ys→∃y∈ys,y≠""∧r.2=Txt.split y " "
 | [],_,_,h=>nomatch h
 | y::t,k,r,h=>by
  have h:r∈(if y="" then [] else [(k,Txt.split y " ")])++b6 (k+1) t:=h;rcases List.mem_append.mp h with h | h
  ·split at h
   ·cases h
   ·rename_i hy
    rw[List.mem_singleton.mp h];exact ⟨y,aa6,hy,rfl⟩
  ·obtain ⟨z,hz,h1,h2⟩:=pd t _ r h;exact ⟨z,aab _ hz,h1,h2⟩
theorem Ec {ys:List Str} {i:Nat} {y:Str} (h:ys[i]?=some y) (hy:y≠"") (k:Nat):(b6 k ys)[(b6 k (ys.take i)).length]?=some (k+i,Txt.split y " ")∧∀j r,j < (b6 k (ys.take i)).length→(b6 k ys)[j]?=some r→∃z∈ys.take i,z≠""∧r.2=Txt.split z " ":=by
 have hi:=(List.getElem?_eq_some_iff.mp h).1;have e:ys=ys.take i++(y::ys.drop (i+1)):=by
  have:=abz i ys;rw[ada hi] at this;rw[←(List.getElem?_eq_some_iff.mp h).2];exact this.symm
 have tl:(ys.take i).length=i:=by rw[aaa];omega
 have e2:b6 k ys=b6 k (ys.take i)++((k+i,Txt.split y " ")::b6 (k+i+1) (ys.drop (i+1))):=by
  conv=>lhs;rw[e]
  rw[pf,tl];show _++((if y="" then [] else [(k+i,Txt.split y " ")])++_)=_
  rw[if_neg hy];rfl
 rw[e2];refine ⟨by rw[aaz (aa3 _),ach];rfl,λj r hj hr=>?_⟩;rw[ab6 hj] at hr;exact pd _ _ _ (aap hr)
def za (ws:List Str):Prop:=(∀z∈ws,z.length≤1000)∧ws.length≤1000∧Di (ws.getD 3 "")
def yg (rs:List Rw) (i:Nat):Prop:=(∃n d,rs[i]?=some (Rw.does n d)∧n∉aj rs)∧∀j m e,j < i→rs[j]?=some (Rw.does m e)→m∈aj rs
theorem za.of {ws:List Str} (h:∀w∈ws,PW w) (hl:ws.length≤40):za ws:=by
 refine ⟨λz hz=>by have:=(h z hz).2.1;omega,by omega,?_⟩;by_cases h3:3 < ws.length
 ·exact (h _ (m7 h3)).1
 ·rw[aam,List.getElem?_eq_none (by omega)];intro hn;exact absurd hn (by decide+kernel)
theorem Gh {ws:List Str} (h:∀w∈ws,PW w):10∉(Txt.join " " ws).cps.toList:=by
 rw[Ac];induction ws with
 | nil=>exact aar
 | cons x r ih=>
  have ih:=ih λw hw=>h w (aab _ hw);have hx:=(h x aa6).2.2;cases r with
  | nil=>exact λhc=>(hx 10 hc).2 rfl
  | cons y r=>
   show 10∉(x++S " "++Str.join (S " ") (y::r)).cps.toList
   simp only[Str.cps_append,acd,ado,not_or];exact ⟨⟨λhc=>(hx 10 hc).2 rfl,by decide+kernel⟩,ih⟩
inductive Itm
 | row (r:Rw)
 | stray (n:Str) (d:List V)
 | bad (y:Str)
noncomputable def Itm.line:Itm→Str
 | .row r=>r.line
 | .stray n d=>(Rw.does n d).line
 | .bad y=>y
noncomputable def Itm.flag:Itm→Int
 | .row _=>0
 | .stray _ _=>1
 | .bad _=>2
def Itm.ok (R:List Str):Itm→Prop
 | .row r=>r.ok
 | .stray n d=>(Rw.does n d).ok∧n∉R
 | .bad y=>BadL y
theorem uw {r:Rw} (h:r.ok):∃ws:List Str,r.line=Txt.join " " ws∧ws.length≤40∧ws≠[]∧(∀w∈ws,PW w)∧ws=r.tx.map ag:=by
 obtain ⟨_,l1,l2⟩:=gz h;exact ⟨_,rfl,by omega,λe=>by rw[e] at l1;exact absurd l1 (by decide),PW.tx h,rfl⟩
theorem Itm.words {R:List Str} {x:Itm} (h:x.ok R):∃ws:List Str,x.line=Txt.join " " ws∧ws.length≤40∧ws≠[]∧∀w∈ws,PW w:=by
 cases x with
 | row r=>obtain ⟨ws,a,b,c,d,_⟩:=uw h;exact ⟨ws,a,b,c,d⟩
 | stray n d=>obtain ⟨ws,a,b,c,d,_⟩:=uw h.1;exact ⟨ws,a,b,c,d⟩
 | bad y=>obtain ⟨ws,a,_,b,c,d,_⟩:=h.ex;exact ⟨ws,a,b,c,d⟩
theorem Itm.split {R:List Str} {x:Itm} (h:x.ok R):za (Txt.split x.line " ")∧10∉x.line.cps.toList∧x.line.length≤5000:=by
 obtain ⟨ws,e,hl,ne,hp⟩:=Itm.words h;have es:Txt.split x.line " "=ws:=by
  rw[e];exact g7 _ ne λw hw hc=>((hp w hw).2.2 32 hc).1 rfl
 rw[es];exact ⟨za.of hp hl,by rw[e];exact Gh hp,by rw[e];exact (jlen hp hl).2⟩
theorem yy {r:Rw} (h:r.ok) (hn:r.line≠""):bo (Txt.split r.line " ")=true:=by
 rw[(gz h).1];unfold bo;cases r with
 | kind n=>rw[yu h];rfl
 | rule n k p ws=>rw[zh h,ab4];rfl
 | does n d=>rw[zv h,ab4]
 | none=>exact absurd (by decide+kernel) hn
theorem Itm.good {R:List Str} {x:Itm} (h:x.ok R) (hb:x.flag < 2) (hn:x.line≠""):bo (Txt.split x.line " ")=true:=by
 cases x with
 | row r=>exact yy h hn
 | stray n d=>exact yy h.1 hn
 | bad y=>exact absurd hb (by show ¬(2:Int) < 2;decide)
theorem G8 {R:List Str} {its:List Itm} (hok:∀x∈its,x.ok R) {k:Nat} {y:Str} (hk:its[k]?=some (.bad y)) (hf:∀j x,j < k→its[j]?=some x→x.flag < 2):∃(i:Nat) (r:Nat×List Str),(b6 1 (its.map Itm.line))[i]?=some r∧bo r.2=false∧(∀j r',j < i→(b6 1 (its.map Itm.line))[j]?=some r'→bo r'.2=true)∧r.1=k+1:=by
 have hb:BadL y:=hok _ (aap hk);obtain ⟨ws,e,hg,hl,ne,hp,hne⟩:=hb.ex;have hy:(its.map Itm.line)[k]?=some y:=by rw[aag,hk];rfl
 obtain ⟨h1,h2⟩:=Ec hy hne 1;refine ⟨_,_,h1,?_,λj r' hj hr=>?_,ae0 1 k⟩
 ·show bo (Txt.split y " ")=false
  rw[e,g7 _ ne λw hw hc=>((hp w hw).2.2 32 hc).1 rfl];exact hg
 ·obtain ⟨z,hz,zn,ez⟩:=h2 j r' hj hr;rw[←abv] at hz;obtain ⟨x,hx,rfl⟩:=List.mem_map.mp hz;obtain ⟨m,hm⟩:=List.mem_iff_getElem?.mp hx;have hmk:m < k:=by
   have:=(List.getElem?_eq_some_iff.mp hm).1;rw[aaa] at this;omega
  rw[abk hmk] at hm;rw[ez];exact Itm.good (hok _ (aap hm)) (hf m x hmk hm) zn
noncomputable def Itm.rw?:Itm→Option Rw
 | .row r=>some r
 | _=>none
noncomputable def df (its:List Itm):List Rw:=its.filterMap Itm.rw?
noncomputable def allI:Itm→Rw
 | .row r=>r
 | .stray n d=>.does n d
 | .bad _=>.none
theorem jr:∀its:List Itm,aj (its.map allI)=aj (df its)
 | []=>rfl
 | .row r::t=>by
  have ih:=jr t;show aj ([r]++t.map allI)=aj ([r]++df t)
  rw[show aj ([r]++t.map allI)=aj [r]++aj (t.map allI) from aaj,show aj ([r]++df t)=aj [r]++aj (df t) from aaj,ih]
 | .stray n d::t=>by
  have ih:=jr t;show aj (t.map allI)=aj (df t)
  exact ih
 | .bad y::t=>by
  have ih:=jr t;show aj (t.map allI)=aj (df t)
  exact ih
theorem kh:∀rs:List Rw,aj (rs.filter Rw.full)=aj rs
 | []=>rfl
 | r::t=>by
  have ih:=kh t;cases r with
  | none=>exact ih
  | kind n=>exact ih
  | rule n k p ws=>
   show n::aj (t.filter Rw.full)=n::aj t
   rw[ih]
  | does n d=>exact ih
theorem qx {r:Rw} (h:r.ok):r.line=""↔r.full=false:=by
 constructor
 ·intro e;cases r with
  | none=>rfl
  | kind n=>exact absurd e (n9 h rfl)
  | rule n k p ws=>exact absurd e (n9 h rfl)
  | does n d=>exact absurd e (n9 h rfl)
 ·intro e;cases r with
  | none=>decide+kernel
  | _=>cases e
theorem ji:∀(rs:List Rw) (k:Nat),(∀r∈rs,r.ok)→(b6 k (rs.map Rw.line)).map (·.2)=txs (rs.filter Rw.full)
 | [],_,_=>rfl
 | r::t,k,h=>by
  have ih:=ji t (k+1) λx hx=>h x (aab _ hx);have hr:=h r aa6;show ((if r.line="" then [] else [(k,Txt.split r.line " ")])++b6 (k+1) (t.map Rw.line)).map (·.2)=_
  rw[aad,ih];by_cases e:r.line=""
  ·rw[if_pos e,abx,if_neg (by rw[(qx hr).mp e];decide)];rfl
  ·have f:r.full=true:=by
    cases hf:r.full with
    | true=>rfl
    | false=>exact absurd ((qx hr).mpr hf) e
   rw[if_neg e,abx,if_pos f,(gz hr).1];rfl
theorem nc:∀{its:List Itm},(∀x∈its,x.flag < 2)→its.map Itm.line=(its.map allI).map Rw.line
 | [],_=>rfl
 | x::t,h=>by
  have ih:=nc (its:=t) λy hy=>h y (aab _ hy);rw[aao,aao,aao,ih];congr 1
  cases x with
  | row r=>rfl
  | stray n d=>rfl
  | bad y=>exact absurd (h _ aa6) (by show ¬(2:Int) < 2;decide)
theorem so:∀(rs:List Rw) (k:Nat),(∀r∈rs,r.ok)→(b6 k (rs.map Rw.line)).length=(rs.filter Rw.full).length:=λrs k h=>by
 have:=congrArg List.length (ji rs k h);unfold txs at this;rw[aa2,aa2] at this;exact this
theorem zd {R:List Str} {its:List Itm} (hok:∀x∈its,x.ok R) (hR:∀n∈aj (df its),n∈R) (hd:∀n d,Rw.does n d∈df its→n∈aj (df its)) (hl:its.length≤100) (hb:∀x∈its,x.flag < 2) {k:Nat} {n:Str} {d:List V} (hk:its[k]?=some (.stray n d)) (hf:∀j x,j < k→its[j]?=some x→x.flag < 1):
  ∃rs:List Rw,(b6 1 (its.map Itm.line)).map (·.2)=txs rs∧good rs∧∃(i:Nat) (r:Nat×List Str),(b6 1 (its.map Itm.line))[i]?=some r∧yg rs i∧r.1=k+1:=by
 have ok:∀r∈its.map allI,r.ok:=λr hr=>by
  obtain ⟨x,hx,rfl⟩:=List.mem_map.mp hr;have:=hok x hx;cases x with
  | row r=>exact this
  | stray n d=>exact this.1
  | bad y=>trivial
 have ho:=hok _ (aap hk);have el:=nc hb;have hy:(its.map Itm.line)[k]?=some (Rw.does n d).line:=by rw[aag,hk];rfl
 obtain ⟨h1,_⟩:=Ec hy (n9 ho.1 rfl) 1;have eR:aj ((its.map allI).filter Rw.full)=aj (df its):=by rw[kh,jr]
 have hkl:=(List.getElem?_eq_some_iff.mp hk).1;have ek:its=its.take k++(.stray n d::its.drop (k+1)):=by
  have:=abz k its;rw[ada hkl,(List.getElem?_eq_some_iff.mp hk).2] at this;exact this.symm
 have ei:(b6 1 ((its.map Itm.line).take k)).length=(((its.take k).map allI).filter Rw.full).length:=by
  rw[←abv,nc λx hx=>hb x (ab9 hx)];exact so _ _ λr hr=>by
   obtain ⟨x,hx,rfl⟩:=List.mem_map.mp hr;exact ok _ (List.mem_map.mpr ⟨x,ab9 hx,rfl⟩)
 have ef:(its.map allI).filter Rw.full=((its.take k).map allI).filter Rw.full++(Rw.does n d::((its.drop (k+1)).map allI).filter Rw.full):=by
  conv=>lhs;rw[ek]
  rw[aad,ad3];rfl
 refine ⟨(its.map allI).filter Rw.full,by rw[el];exact ji _ _ ok,⟨λr hr=>⟨ok r (List.mem_filter.mp hr).1,(List.mem_filter.mp hr).2⟩,aak (acs _ _) (by rw[aa2];exact hl)⟩,_,_,h1,⟨⟨n,d,?_,?_⟩,λj m e hj hr=>?_⟩,ae0 1 k⟩
 ·rw[ei,ef,aaz (aa3 _),ach];rfl
 ·rw[eR];exact λh=>ho.2 (hR n h)
 ·rw[ei] at hj;rw[ef,ab6 hj] at hr;rw[eR];obtain ⟨hm,_⟩:=List.mem_filter.mp (aap hr);obtain ⟨x,hx,ex⟩:=List.mem_map.mp hm;obtain ⟨q,hq⟩:=List.mem_iff_getElem?.mp hx;have hqk:q < k:=by
   have:=(List.getElem?_eq_some_iff.mp hq).1;rw[aaa] at this;omega
  rw[abk hqk] at hq;have fx:=hf q x hqk hq;cases x with
  | row r=>
   have ex:r=Rw.does m e:=ex;exact hd m e (List.mem_filterMap.mpr ⟨_,aap hq,by show some r=some (Rw.does m e);rw[ex]⟩)
  | stray n' d'=>exact absurd fx (by show ¬(1:Int) < 1;decide)
  | bad y=>exact absurd fx (by show ¬(2:Int) < 1;decide)
theorem Kn {rs:List Rw} (h:Told rs):∃rs':List Rw,(b6 1 (rs.map Rw.line)).map (·.2)=txs rs'∧good rs'∧∀n d,Rw.does n d∈rs'→n∈aj rs':=
 ⟨rs.filter Rw.full,ji rs 1 h.1,Fd h,λn d hm=>by rw[kh];exact h.2.2 n d (List.mem_filter.mp hm).1⟩
theorem pe {R:List Str} {its:List Itm} (hok:∀x∈its,x.ok R) (hne:its≠[]) (hl:its.length≤100):Txt.split (Txt.join "\n" (its.map Itm.line)) "\n"=its.map Itm.line∧(∀y∈its.map Itm.line,y.length≤100000)∧∀r∈b6 1 (its.map Itm.line),za r.2:=by
 refine ⟨Cp _ (λe=>hne (List.map_eq_nil_iff.mp e)) λy hy=>?_,λy hy=>?_,λr hr=>?_⟩
 ·obtain ⟨x,hx,rfl⟩:=List.mem_map.mp hy;exact (Itm.split (hok x hx)).2.1
 ·obtain ⟨x,hx,rfl⟩:=List.mem_map.mp hy;have:=(Itm.split (hok x hx)).2.2;omega
 ·obtain ⟨y,hy,_,e⟩:=pd _ _ _ hr;obtain ⟨x,hx,rfl⟩:=List.mem_map.mp hy;rw[e];exact (Itm.split (hok x hx)).1
end Bd
namespace L2
open PySem PySem.Spec PyProof.Rows
section
variable {X:Cx}
theorem u9 (hc:X.calm=true):cm X (.builtin "max") (λxs H Q=>∃(a:Addr) (ns:List Int),xs=[.ref a]∧SqL X.K H a (ns.map V.int)∧ns≠[]∧∀m∈ns,(∀y∈ns,y≤m)→Q (.int m) H):=by
 intro pins s σ H xs us Q I r h;obtain ⟨a,ns,rfl,ha,hne,q⟩:=h;obtain ⟨u,rfl,rx⟩:=vals1 r;cases rx
 obtain ⟨its,rv,pl,_⟩:=I.list ha;have ia:=Et rv;have hl:=rv.length;rw[aa2] at hl;obtain ⟨xs,e⟩:=ia.allInts.items;have hpos:0 < ns.length:=List.length_pos_iff.mpr hne;have esz:(intItems xs).size=its.length:=by rw[←e,aae]
 have exs:(intItems xs).size=xs.size:=by simp[intItems]
 have xsz:0 < xs.size:=by omega
 have num:∀i,i < ns.length→numAt xs i=ns.getD i 0:=λi hi=>by
  obtain ⟨u,hu,t,ru⟩:=rv.get (i:=i) (x:=.int ns[i]) (by rw[aag,aa5 hi];rfl);have h1:(intItems xs)[i]?=some u:=by rw[←e,ads];exact hu
  rw[ru] at h1;rw[aam,aa5 hi];obtain ⟨t',e'⟩:=intItems_at h1;have:=(Value.int.inj e').1;exact this.symm
 refine max_intList (I.ok.hd hc) (l:=a) (xs:=xs) (by rw[←e];exact pl.isList) xsz λv h' tk hv keep=>?_;obtain ⟨b1,b2⟩:=argBest_gt (numAt xs) (xs.size - 1);rw[←e,ads] at hv;generalize argBest _ _=k at hv b1 b2;have hk:k < ns.length:=by rw[hl];exact (List.getElem?_eq_some_iff.mp hv).1
 obtain ⟨u,hu,ru⟩:=rv.get (i:=k) (x:=.int ns[k]) (by rw[aag,aa5 hk];rfl);rw[hv] at hu;cases hu
 refine ⟨.int ns[k],H,I.kept keep,ru,q _ (aaw hk) λy hy=>?_⟩;obtain ⟨j,hj⟩:=adt hy;have hjl:=(List.getElem?_eq_some_iff.mp hj).1;have:=b2 j (by omega);rw[num j hjl,num k hk,aam,aam,hj,aa5 hk] at this;exact this
end
section
variable {X:Cx}
theorem Bt (K:PySem.W.Frag) (hK:X.K=K) (hc:X.calm=true):cm X (.builtin "max") (λxs H Q=>∃(a:Addr) (ns:List Int),xs=[.ref a]∧SqL K H a (ns.map V.int)∧ns≠[]∧∀m∈ns,(∀y∈ns,y≤m)→Q (.int m) H):=by
 subst hK;exact u9 hc
end
theorem Iy {K:PySem.W.Frag} {a:Addr} {xs:List V} {fr:L2.St} {tc:TT} {te:TE} {D:Addr} {H1:Hp} {Q:Hp→Prop} (P:Nat→List V→Hp→Prop) (hS:∀i ys H,P i ys H→SqL K H a xs) (hn:xs.length < sizeLine) (h0:P 0 [] (upd H1 D (.lst [])))
  (step:∀(i:Nat) x ys H (G:Hp→Prop) (K':V→Hp→Prop),xs[i]?=some x→P i ys H→ys.length≤i→H D=some (.lst ys)→(∀H3,H3 D=some (.lst ys)→P (i+1) ys H3→G H3)→(∀y H4,H4 D=some (.lst ys)→P (i+1) (ys++[y]) (upd H4 D (.lst (ys++[y])))→K' y H4)→tc ([some x]++fr) H λb H3=>if b=true then te ([some x]++fr) H3 K' else G H3)
  (done:∀ys H,P xs.length ys H→ys.length≤xs.length→H D=some (.lst ys)→Q H):LC 1 fr (iy 0) tc te (Itl K a) D H1 Q:=by
 refine ⟨λi m H=>m=xs.length - i∧i≤xs.length∧∃ys,H D=some (.lst ys)∧P i ys H∧ys.length≤i,⟨xs.length,by simp,ab7 _,[],aa,h0,aa3 _⟩,?_⟩;rintro i m H ⟨rfl,hi,ys,hys,hP,hl⟩;by_cases hlt:i < xs.length
 ·have hx:xs[i]?=some xs[i]:=aa5 hlt;refine .inr ⟨⟨xs,_,hS i ys H hP,hx⟩,λτ x H' hτ hy=>?_⟩;have e1:H'=H:=hy.1;have e2:x=xs[i]:=aac ((hy.2 xs (hS i ys H hP)).symm.trans hx);subst e1 e2;obtain ⟨c,rfl⟩:∃c,τ=[c]:=List.length_eq_one_iff.mp hτ;refine ⟨⟨[some xs[i]],rfl,rfl⟩,step i _ ys H' _ _ hx hP hl hys (λH3 q1 q2=>⟨xs.length - (i+1),by omega,rfl,hlt,ys,q1,q2,abt hl⟩) λy H4 q1 q2=>⟨ys,q1,by omega,xs.length - (i+1),by omega,rfl,hlt,ys++[y],aa,q2,?_⟩⟩;rw[aa4,abj];omega
 ·obtain rfl:i=xs.length:=by omega
  exact .inl ⟨⟨xs,hS _ ys H hP,aa3 _⟩,done ys H hP hl hys⟩
end L2
namespace K32
open PySem PySem.Spec L2 PyProof.Rows Pc Bk Nd Bd
set_option hygiene false
set_option compiler.extract_closed false
local macro_rules | `(tactic| push_cast [$xs,*])=>`(tactic| simp only [↓Gr,↓Ln,↓Li,↓Mb,↓exists_eq_left,↓exists_eq_left',↓int_ex,↓ref_ex,↓bl_ex,↓Ld,j3,vm,rID,rUD,tBD,Cs,Hz,Js,Il,tSeq,tIfS,tRet,tRetN,tNext,tVar,tC,tTest,tB,tOp,tUn,rI,rI0,rU,rEq,rNe,zo,tCB,tCons,tNil,tAnd,tOr,tNot,tAndV,tOrV,tNotV,tIf,iy,tAsg,tBM,tBM0,tSl,Ej,Jj,rSlS,rSlL,tLst,tTup,tDrop,tNoIf,iStr,iList,iTup,J5,iRng2,tLC,Jt,r8,List.set_cons_zero,List.set_cons_succ,List.getElem?_cons_zero,List.getElem?_cons_succ,Option.some.injEq,V.int.injEq,V.str.injEq,V.bl.injEq,V.ref.injEq,List.cons.injEq,exists_eq_left,exists_eq_left',exists_eq_right,exists_eq_right',exists_and_left,exists_and_right,and_true,true_and,List.cons_append,List.nil_append,List.append_nil,reduceCtorEq,false_and,exists_false,false_or,or_false,decide_eq_true_eq,eq_self,if_true,if_false,Bool.false_eq_true,Bool.true_eq_false,cxOf_K,cxOf_P,cxOf_w,Ly,cxOf_b,List.map_cons,List.map_nil,Option.getD_some,Option.getD_none,exists_const,nox_K,and_assoc,exists_eq,exists_eq',V.ty.injEq,tVals,Int.reduceLT,Int.reduceLE,Int.reduceNeg,Int.reducePow,Nat.reduceLT,Nat.reduceLeDiff,La,M8,CDiv,tCallV,tDIn,Dg,tDGet,iRev,Kv,sDPut,and_self,exists_prop,$xs,*])
set_option hygiene true
set_option compiler.extract_closed true
noncomputable def top (i:Nat):Stmt:=PySem.Challenge.pw_pricecover_k32_bad_rows.main.body.getD i (.Pass ⟨0,0,0,0⟩)
structure Gs (w:World) (K:PySem.W.Frag) (mg:Str→Option Value) (κ:Cl):Prop where
 er:Errs K mg κ
 w_BadRow:PySem.W.findIn K (.ref κ.badRow) "row"=some none
 m_ValueError:mg "ValueError"=none
 m_all:mg "all"=none
 m_bool:mg "bool"=none
 m_enumerate:mg "enumerate"=none
 m_int:mg "int"=none
 m_isinstance:mg "isinstance"=none
 m_len:mg "len"=none
 m_max:mg "max"=none
 m_min:mg "min"=none
 m_range:mg "range"=none
 m_str:mg "str"=none
 m_sum:mg "sum"=none
 m_tuple:mg "tuple"=none
 m_LETTERS:∃t,mg "LETTERS"=some (.str "abcdefghijklmnopqrstuvwxyz" t)
 m_FIGURES:∃t,mg "FIGURES"=some (.str "0123456789" t)
 m_MOST_LETTERS:∃t,mg "MOST_LETTERS"=some (.int 8 t)
 m_MOST_FIGURES:∃t,mg "MOST_FIGURES"=some (.int 60 t)
 m_KEPT_WORDS:∃a,mg "KEPT_WORDS"=some (.ref a)∧∀H,SqT K H a [.str "add",.str "sub",.str "mul",.str "neg",.str "any",.str "var",.str "put",.str "load",.str "out"]
 m_PARTS_BELOW:∃a,mg "PARTS_BELOW"=some (.ref a)∧ModD w K a [(Sum.inr "add",.int 2),(Sum.inr "sub",.int 2),(Sum.inr "mul",.int 2),(Sum.inr "neg",.int 1)]
 m_BOXES:∃a,mg "BOXES"=some (.ref a)∧∀H,SqT K H a [.str "out",.str "t1",.str "t2",.str "t3"]
 m_LEAF_NUMBERS:∃t,mg "LEAF_NUMBERS"=some (.str "123456789" t)
 m_MOST_PRICE:∃t,mg "MOST_PRICE"=some (.int 999999 t)
 m_MOST_SHAPE_WORDS:∃t,mg "MOST_SHAPE_WORDS"=some (.int 12 t)
 m_SHAPE_START:∃t,mg "SHAPE_START"=some (.int 5 t)
def Ep (K:PySem.W.Frag):Sp:=λvs H Q _=>∃(a:Addr) (ns:List Int),vs=[.ref a]∧SqL K H a (ns.map V.int)∧ns.length≤63∧∀H',Q (.bl true) H'
def xg (H:Hp) (l p:Addr) (r:Nat×List Str):Prop:=∃a:Addr,a≠l∧H p=some (.tup [.int (r.1:Int),.ref a])∧H a=some (.lst (r.2.map V.str))
def jy (H:Hp) (l:Addr) (rs:List (Nat×List Str)):Prop:=∃ps:List Addr,H l=some (.lst (ps.map V.ref))∧ps.length=rs.length∧∀(i:Nat) (p:Addr) (r:Nat×List Str),ps[i]?=some p→rs[i]?=some r→xg H l p r
theorem xg.same {H H':Hp} {l p:Addr} {r:Nat×List Str} (h:xg H l p r) (s:ao H H'):xg H' l p r:=let ⟨a,ne,h1,h2⟩:=h;⟨a,ne,s _ _ h1,s _ _ h2⟩
theorem xg.put {H:Hp} {l p:Addr} {r:Nat×List Str} {xs ys:List V} (h:xg H l p r) (hl:H l=some (.lst xs)):xg (upd H l (.lst ys)) l p r:=let ⟨a,ne,h1,h2⟩:=h;⟨a,ne,by rw[ai (λe=>by rw[e,hl] at h1;cases h1)];exact h1,by rw[ai ne];exact h2⟩
theorem jy.same {H H':Hp} {l:Addr} {rs:List (Nat×List Str)} (h:jy H l rs) (s:ao H H'):jy H' l rs:=let ⟨ps,h1,h2,h3⟩:=h;⟨ps,s _ _ h1,h2,λi p r a b=>(h3 i p r a b).same s⟩
theorem jy.at {H:Hp} {l:Addr} {rs:List (Nat×List Str)} (h:jy H l rs):Io H l (rs.map (·.2)):=by
 obtain ⟨ps,h1,h2,h3⟩:=h;refine ⟨ps,h1,by rw[aa2];exact h2,λi p ts hp ht=>?_⟩;rw[aag] at ht;obtain ⟨r,hr,rfl⟩:=Option.map_eq_some_iff.mp ht;obtain ⟨a,ne,g1,g2⟩:=h3 i p r hp hr;exact ⟨_,a,ne,g1,g2⟩
def jm:Sp:=λvs H Q _=>∃(z:Str),vs=[.str z]∧z.length≤500000∧(Txt.split z "\n").length≤1000∧(∀y∈Txt.split z "\n",y.length≤100000)∧∀(l:Addr) (H':Hp),ao H H'→jy H' l (b6 1 (Txt.split z "\n"))→Q (.ref l) H'
def rj (κ:Cl) (E:XK) (H:Hp) (n:Nat):Prop:=∀dx H',ao H H'→H' dx=some (XD dx [("row",.int (n:Int))])→E (.ref κ.badRow) (some dx) H'
theorem rj.same {κ:Cl} {E:XK} {H H':Hp} {n:Nat} (h:rj κ E H n) (s:ao H H'):rj κ E H' n:=λdx H2 s2 hd=>h dx H2 (s.trans s2) hd
def jj (κ:Cl):Sp:=λvs H Q E=>∃(l:Addr) (nr:List (Nat×List Str)),vs=[.ref l]∧jy H l nr∧(∀r∈nr,za r.2)∧nr.length≤1000∧(((∀r∈nr,bo r.2=true)∧∀H',ao H H'→Q .non H')∨∃(i:Nat) (r:Nat×List Str),nr[i]?=some r∧bo r.2=false∧(∀j r',j < i→nr[j]?=some r'→bo r'.2=true)∧rj κ E H r.1)
def ly (κ:Cl):Sp:=λvs H Q E=>∃(l:Addr) (nr:List (Nat×List Str)) (rs:List Rw),vs=[.ref l]∧jy H l nr∧nr.map (·.2)=txs rs∧good rs∧(((∀n d,Rw.does n d∈rs→n∈aj rs)∧∀(d:Addr) (H':Hp),ao H H'→H d=none→DA (λa=>H a=acp) H' d 100 (λz=>if z∈aj rs then some (b5 rs z) else none)→Q (.ref d) H')∨∃(i:Nat) (r:Nat×List Str),nr[i]?=some r∧yg rs i∧rj κ E H r.1)
def oi (κ:Cl):Sp:=λvs H Q E=>∃(z:Str),vs=[.str z]∧z.length≤500000∧(Txt.split z "\n").length≤1000∧(∀y∈Txt.split z "\n",y.length≤100000)∧(∀r∈b6 1 (Txt.split z "\n"),za r.2)∧
  ((∃rs:List Rw,(b6 1 (Txt.split z "\n")).map (·.2)=txs rs∧good rs∧(((∀n d,Rw.does n d∈rs→n∈aj rs)∧∀(b:Addr) (H':Hp),ao H H'→Q (.ref b) H')∨∃(i:Nat) (r:Nat×List Str),(b6 1 (Txt.split z "\n"))[i]?=some r∧yg rs i∧rj κ E H r.1))∨
   ∃(i:Nat) (r:Nat×List Str),(b6 1 (Txt.split z "\n"))[i]?=some r∧bo r.2=false∧(∀j r',j < i→(b6 1 (Txt.split z "\n"))[j]?=some r'→bo r'.2=true)∧rj κ E H r.1)
theorem Fu {rs:List Rw} (hg:good rs) {ws:List Str} (h:ws∈txs rs):bo ws=true:=by
 obtain ⟨r,hr,rfl⟩:=List.mem_map.mp h;obtain ⟨ok,fu⟩:=hg.1 r hr;unfold bo;cases r with
 | kind n=>rw[yu ok];rfl
 | rule n k p ws=>rw[zh ok,ab4];rfl
 | does n d=>rw[zv ok,ab4]
 | none=>cases fu
def om:Sp:=λvs H Q _=>∃(h:Addr) (n:Nat),vs=[.ref h]∧aw H h n∧n≤9000∧∀(t:Addr) (d:List V) (H':Hp),ak h H H'→H t=none→H' t=some (.tup d)→aw H' h (n+10)→ke d→Q (.ref t) H'
theorem Jf (A B:Str) (sh:Int):((abf 24).map (nmN A B sh)).Nodup:=by
 have:=(nmN_nd A B sh).sublist (ae4 24 _);rw[←abv,List.take_range] at this;exact this
def ng:Sp:=λvs H Q _=>∃(h:Addr),vs=[.ref h,.int 24]∧aw H h 0∧∀(l:Addr) (zs:List Str) (H':Hp),ak h H H'→H l=none→H' l=some (.lst (zs.map V.str))→zs.length=24→zs.Nodup→(∀z∈zs,ax z=true)→aw H' h 10→Q (.ref l) H'
theorem mi {H:Hp} {h a:Addr} {n:Nat} {o:HO} (hh:aw H h n) (ne:h≠a):aw (upd H a o) h n:=let ⟨x,y,z,h1,r⟩:=hh;⟨x,y,z,by rw[ai ne];exact h1,r⟩
def yc (R:List Str) (r:List V):Prop:=∀n k p ws,r=rlV::.str n::.str k::.int p::ws→n∈R
def Cb:Sp:=λvs H Q _=>∃(h l:Addr) (zs:List Str),vs=[.ref h,.ref l]∧aw H h 0∧H l=some (.lst (zs.map V.str))∧zs.length=20∧(∀z∈zs,ax z=true)∧∀(t:Addr) (r:List V) (H':Hp),ak h H H'→H' t=some (.tup r)→ve r→yc (zs.drop 8) r→Q (.ref t) H'
def ki:Sp:=λvs H Q _=>∃(l:Addr) (raws:List (List V)) (R:List Str),vs=[.ref l]∧Je H l raws∧(∀r∈raws,ve r)∧(∀r∈raws,yc R r)∧raws.length≤63∧∀(l':Addr) (rs:List Rw) (H':Hp),ao H H'→Je H' l' (rs.map Rw.vs)→Told rs→(∀n∈aj rs,n∈R)→Q (.ref l') H'
def xw (K:PySem.W.Frag):Sp:=λvs H Q _=>∃(a l:Addr) (ns:List Int) (zs:List Str),vs=[.ref a,.ref l]∧SqL K H a (ns.map V.int)∧ns.length≤63∧H l=some (.lst (zs.map V.str))∧zs.length=20∧(∀z∈zs,ax z=true)∧∀(l':Addr) (rs:List Rw) (H':Hp),ao H H'→Je H' l' (rs.map Rw.vs)→Told rs→(∀n∈aj rs,n∈zs.drop 8)→Q (.ref l') H'
theorem Ma {zs:List Str} {x:Int} {z:Str} (h8:8≤x) (h:atI (zs.map V.str) x=some (.str z)):z∈zs.drop 8:=by
 obtain ⟨n,rfl⟩:∃n:Nat,x=((8+n:Nat):Int):=⟨(x - 8).toNat,by omega⟩;by_cases hn:8+n < (zs.map V.str).length
 ·rw[ay (aa5 hn)] at h;rw[aa2] at hn;have e:=aac h;rw[List.getElem_map] at e;refine aap (i:=n) ?_;rw[ad4,aa5 hn,V.str.inj e]
 ·exfalso
  unfold atI at h;obtain ⟨k,hk,_⟩:=Option.bind_eq_some_iff.mp h;obtain ⟨_,_,_,h4⟩:=wz hk;omega
theorem rr_in {qs:List Rr} {R:List Str} (h:∀r∈qs.map Rr.vs,yc R r) {n:Str} (hn:n∈bj qs):n∈R:=by
 obtain ⟨q1,hq1,e1⟩:=List.mem_filterMap.mp hn;cases q1 with
 | dn _ _=>cases e1
 | it r1=>
  cases r1 with
  | rule n' k' p' ws'=>
   cases e1
   exact h _ (List.mem_map.mpr ⟨_,hq1,rfl⟩) _ _ _ _ rfl
  | _=>cases e1
def Bi:Sp:=λvs H Q _=>∃(z:Str) (h:Addr) (n:Nat),vs=[.str z,.ref h]∧aw H h n∧n≤9500∧∀(w:Str) (H':Hp),ak h H H'→aw H' h (n+1)→PW w→dr z w=false→Q (.str w) H'
def Cv:Sp:=λvs H Q _=>∃(l h:Addr) (i n:Nat) (ws:List Str),vs=[.ref l,.int (i:Int),.ref h]∧H l=some (.lst (ws.map V.str))∧ws.length≤40∧aw H h n∧n≤9400∧l≠h∧GR ws∧1≤i∧i < ws.length∧∀(w:Str) (H':Hp),ak h H H'→aw H' h (n+2)→PW w→Er ws i w→Q (.str w) H'
def vg:Sp:=λvs H Q _=>∃(h:Addr) (n:Nat) (r:Rw),vs=[.str r.line,.ref h]∧aw H h n∧n≤9000∧r.ok∧∀(y:Str) (H':Hp),ak h H H'→aw H' h (n+10)→BadL y→Q (.str y) H'
def xi:Sp:=λvs H Q _=>∃(z:Str) (n:Nat),vs=[.str z]∧z.length≤500000∧(Txt.split z "\n").length≤1000∧(∀y∈Txt.split z "\n",y.length≤100000)∧(∀r∈b6 1 (Txt.split z "\n"),za r.2)∧
  ((∃rs:List Rw,(b6 1 (Txt.split z "\n")).map (·.2)=txs rs∧good rs∧∃(i:Nat) (r:Nat×List Str),(b6 1 (Txt.split z "\n"))[i]?=some r∧yg rs i∧r.1=n)∨
   ∃(i:Nat) (r:Nat×List Str),(b6 1 (Txt.split z "\n"))[i]?=some r∧bo r.2=false∧(∀j r',j < i→(b6 1 (Txt.split z "\n"))[j]?=some r'→bo r'.2=true)∧r.1=n)∧∀H',ao H H'→Q (.int (n:Int)) H'
theorem De:∀w∈([Str.ofString "out",Str.ofString "put",Str.ofString "load",Str.ofString "x1",Str.ofString "Any",Str.ofString "00"]:List Str),pwB w=true∧shB w=false:=by decide+kernel
theorem lr:∀w∈([Str.ofString "a",Str.ofString "abc",Str.ofString "put",Str.ofString "out",Str.ofString "1",Str.ofString "neg",Str.ofString "h1"]:List Str),pwB w=true:=by decide+kernel
theorem Lk:∀w∈([Str.ofString "kinds",Str.ofString "Rule",Str.ofString "do",Str.ofString "Kind",Str.ofString "rul",Str.ofString "add"]:List Str),pwB w=true∧w≠S "kind"∧w≠S "rule"∧w≠S "does"∧w≠"":=by decide+kernel
theorem sempty (a:Str):a++S ""=a:=by
 rw[show S ""=⟨#[]⟩ by decide+kernel];cases a
 exact congrArg Str.mk (Array.append_empty ..)
theorem gr_six {ws:List Str} (g:GR ws) (h:ws.getD 0 ""=S "rule"):6≤ws.length:=by
 cases g with
 | kind n hn=>exact absurd h (of_decide_eq_false dne.1)
 | rule n k p ws h12 h1=>show 6≤ws.length+1+1+1+1+1;omega
 | does n d hd=>exact absurd h (of_decide_eq_false dne.2.2.2.2.2)
 | none=>exact absurd h bw.2.2.2.2.2.2.1
theorem Hr {ws:List Str} (g:GR ws) (h:1 < ws.length):ws.getD 0 ""≠"":=by
 cases g with
 | kind n hn=>exact (by decide+kernel:S "kind"≠Str.ofString "")
 | rule n k p ws h12 h1=>exact (by decide+kernel:S "rule"≠Str.ofString "")
 | does n d hd=>exact (by decide+kernel:S "does"≠Str.ofString "")
 | none=>exact absurd h (by decide)
theorem Cy:∀w∈([Str.ofString "h1",Str.ofString "v1",Str.ofString "n0",Str.ofString "n10",Str.ofString "out",Str.ofString "01",Str.ofString "+5",(i7 (Str.ofString "9") (abe 61)),Str.ofString "-0",Str.ofString "n",Str.ofString "N1",Str.ofString "1_0",Str.ofString "any"]:List Str),pwB w=true∧dr "put" w=false:=by decide+kernel
theorem Ag:∀w∈([Str.ofString "n1",Str.ofString "h1",Str.ofString "v0",Str.ofString "v10",Str.ofString "x",Str.ofString "5",Str.ofString "out",Str.ofString "v",Str.ofString "V1",Str.ofString "var",Str.ofString "t1",Str.ofString "v1v",Str.ofString "v-1"]:List Str),pwB w=true∧dr "load" w=false:=by decide+kernel
theorem Aa:∀w∈([Str.ofString "h0",Str.ofString "h10",Str.ofString "n1",Str.ofString "v1",Str.ofString "t4",Str.ofString "x",Str.ofString "5",Str.ofString "H1",Str.ofString "h",Str.ofString "t",Str.ofString "t0",Str.ofString "Out",Str.ofString "any"]:List Str),pwB w=true∧p0 w=false:=by decide+kernel
theorem ue:∀w∈([Str.ofString "add",Str.ofString "out",Str.ofString "any",Str.ofString "var",Str.ofString "put",Str.ofString "load",Str.ofString "Aa",Str.ofString "abcdefghi",Str.ofString "a1",Str.ofString "_",Str.ofString "neg",Str.ofString "a-b",Str.ofString "7"]:List Str),pwB w=true∧ax w=false:=by decide+kernel
theorem uo:∀w∈([Str.ofString "0",Str.ofString "1000000",Str.ofString "01",Str.ofString "-1",Str.ofString "+1",Str.ofString "1.0",Str.ofString "x",Str.ofString "1_0",(i7 (Str.ofString "9") (abe 61)),Str.ofString "00",Str.ofString "1e2",Str.ofString "-0",Str.ofString "any"]:List Str),pwB w=true∧dh w=false:=by decide+kernel
theorem tj:∀w∈([Str.ofString "==",Str.ofString ":",Str.ofString "-",Str.ofString "as",Str.ofString "=="]:List Str),pwB w=true∧w≠S "=":=by decide+kernel
theorem qg:∀w∈([Str.ofString "out",Str.ofString "put",Str.ofString "load",Str.ofString "Any",Str.ofString "x1",Str.ofString "01",Str.ofString "-0",Str.ofString "+1",Str.ofString "1_0",Str.ofString "abcdefghi",(i7 (Str.ofString "9") (abe 61)),Str.ofString "-01",Str.ofString "="]:List Str),pwB w=true∧shB w=false:=by decide+kernel
theorem tw:∀w∈([Str.ofString "div",Str.ofString "Put",Str.ofString "any",Str.ofString "kind",Str.ofString "h1",Str.ofString "out",Str.ofString "puts",Str.ofString "move",Str.ofString "does",Str.ofString "5",Str.ofString "set",Str.ofString "ad",Str.ofString "="]:List Str),pwB w=true∧arQ w=0:=by decide+kernel
theorem vf:∀w∈([Str.ofString "t4",Str.ofString "t0",Str.ofString "h1",Str.ofString "n1",Str.ofString "Out",Str.ofString "t",Str.ofString "out1",Str.ofString "0",Str.ofString "any",Str.ofString "t12",Str.ofString "v1",Str.ofString "T1",Str.ofString "x"]:List Str),pwB w=true∧j9 w=false:=by decide+kernel
theorem je {zs:List Str} {x:Int} (h0:0≤x) (h1:x < zs.length):∃w∈zs,atI (zs.map V.str) x=some (.str w):=by
 obtain ⟨v,hv,hm⟩:=gg (zs.map V.str) x h0 (by rw[aa2];exact h1);obtain ⟨w,hw,rfl⟩:=List.mem_map.mp hm;exact ⟨w,hw,hv⟩
def fk (H:Hp) (l:Addr) (its:List Itm):Prop:=∃ps:List Addr,H l=some (.lst (ps.map V.ref))∧ps.length=its.length∧∀(i:Nat) (p:Addr) (x:Itm),ps[i]?=some p→its[i]?=some x→H p=some (.lst [.str x.line,.int x.flag])
theorem Jd {H:Hp} {l p:Addr} {ps:List Addr} {z:Str} {n:Int} (h1:H p=some (.lst [.str z,.int n])) (h2:H l=some (.lst (ps.map V.ref))):p≠l:=λe=>by
 rw[e,h2] at h1;have h1:ps.map V.ref=[.str z,.int n]:=HO.lst.inj (aac h1);cases ps with
 | nil=>cases h1
 | cons a r=>exact absurd (ab5 h1).1 (by intro e;cases e)
theorem fk.same {H H':Hp} {l:Addr} {its:List Itm} (h:fk H l its) (s:ao H H'):fk H' l its:=let ⟨ps,h1,h2,h3⟩:=h;⟨ps,s _ _ h1,h2,λi p x a b=>s _ _ (h3 i p x a b)⟩
theorem itm_nh {H:Hp} {h p:Addr} {n:Nat} {z:Str} {m:Int} (hh:aw H h n) (h1:H p=some (.lst [.str z,.int m])):p≠h:=hh.ne h1 (by show (2:Nat)≠3;decide)
theorem fk.hand {H H':Hp} {l h:Addr} {n:Nat} {its:List Itm} (i:fk H l its) (hl:l≠h) (hh:aw H h n) (s:ak h H H'):fk H' l its:=let ⟨ps,h1,h2,h3⟩:=i;⟨ps,s _ _ hl h1,h2,λi p x a b=>s _ _ (itm_nh hh (h3 i p x a b)) (h3 i p x a b)⟩
theorem fk.put {H:Hp} {l:Addr} {ps qs:List Addr} {its':List Itm} (h1:H l=some (.lst (ps.map V.ref))) (hl:qs.length=its'.length) (hq:∀(i:Nat) (p:Addr) (x:Itm),qs[i]?=some p→its'[i]?=some x→H p=some (.lst [.str x.line,.int x.flag])):fk (upd H l (.lst (qs.map V.ref))) l its':=⟨qs,aa,hl,λi p x a b=>by
 rw[ai (Jd (hq i p x a b) h1)];exact hq i p x a b⟩
theorem um {mx:Int}:∀{fs:List Int},mx∈fs→∃k:Nat,fs[k]?=some mx∧∀(j:Nat) (y:Int),j < k→fs[j]?=some y→y≠mx
 | [],h=>nomatch h
 | f::t,h=>by
  by_cases e:f=mx
  ·exact ⟨0,by rw[e];rfl,λj y hj=>absurd hj (acy _)⟩
  ·obtain ⟨k,h1,h2⟩:=um (fs:=t) ((List.mem_cons.mp h).resolve_left λe'=>e e'.symm);refine ⟨k+1,h1,λj y hj hy=>?_⟩;match j,hj,hy with
   | 0,_,hy=>cases aac hy;exact e
   | j+1,hj,hy=>exact h2 j y (by omega) hy
theorem Ip {n k0:Nat} {p:Nat→Bool} (h:p k0=true) (hn:k0 < n) (hf:∀j,j < k0→p j=false):((abf n).filter p)[0]?=some k0:=by
 rw[←adp,List.head?_filter,List.find?_range_eq_some];exact ⟨h,List.mem_range.mpr hn,λj hj=>by rw[hf j hj];rfl⟩
theorem text_len {R:List Str} {its:List Itm} (hok:∀x∈its,x.ok R) (hl:its.length≤70):((its.map Itm.line).map (·.length)).sum+(its.map Itm.line).length*(Str.ofString "\n").length≤360000∧(Txt.join "\n" (its.map Itm.line)).length≤360000:=by
 have h1:((its.map Itm.line).map (·.length)).sum≤5000*its.length:=by
  clear hl;induction its with
  | nil=>exact aa3 _
  | cons x r ih=>
   rw[aao,aao,ad6,aa8];have:=(Itm.split (hok x aa6)).2.2;have:=ih λw hw=>hok w (aab _ hw);omega
 have h2:=join_le (Str.ofString "\n") (its.map Itm.line);rw[show (Str.ofString "\n").length=1 by decide+kernel] at h2 ⊢;have h2:(Txt.join "\n" (its.map Itm.line)).length≤_:=h2;rw[aa2] at h2 ⊢;omega
theorem t8:∀rs:List Rw,df (rs.map Itm.row)=rs
 | []=>rfl
 | r::t=>by
  show r::df (t.map Itm.row)=r::t
  rw[t8 t]
theorem Fp (its:List Itm) (m:Nat) (n:Str) (d:List V):df (its.take m++Itm.stray n d::its.drop m)=df its:=by
 conv=>rhs;rw[←abz m its]
 unfold df;rw[aaj,aaj];rfl
theorem xu {α β:Type} {qs:List α} {its:List β} {m:Nat} {u:α} {x:β} (hl:qs.length=its.length) (hm:m≤its.length) {i:Nat} {p:α} {y:β} (h1:(qs.take m++u::qs.drop m)[i]?=some p) (h2:(its.take m++x::its.drop m)[i]?=some y):(∃j:Nat,qs[j]?=some p∧its[j]?=some y)∨(p=u∧y=x):=by
 have t1:(qs.take m).length=m:=by rw[aaa];omega
 have t2:(its.take m).length=m:=by rw[aaa];omega
 rcases ad8 i m with h | h | h
 ·rw[ab6 (by omega),abk h] at h1 h2;exact .inl ⟨i,h1,h2⟩
 ·rw[aaz (by omega)] at h1 h2;rw[t1,h,ach] at h1;rw[t2,h,ach] at h2;exact .inr ⟨(aac h1).symm,(aac h2).symm⟩
 ·obtain ⟨k,rfl⟩:∃k,i=m+(k+1):=⟨i - m - 1,by omega⟩;rw[aaz (by omega),t1,adj,ack,ad4] at h1;rw[aaz (by omega),t2,adj,ack,ad4] at h2;exact .inl ⟨m+k,h1,h2⟩
theorem Cc {n:Str} {d:List V} (hd:d.map ag≠[]):Str.ofString "does "++n++Str.ofString " "++Txt.join " " (d.map ag)=(Rw.does n d).line:=by
 have e:(Rw.does n d).line=Txt.join " " ([S "does"]++([n]++d.map ag)):=rfl;rw[e,fj (by simp) (by simp),fj (by simp) hd,Bd.join_one,Bd.join_one,show Str.ofString "does "=S "does"++S " " by decide+kernel];simp only[Bp];rfl
set_option hygiene false
local macro_rules
 | `(A0 $a $b)=>`(@pvD _ $a _ _ (by rfl) $b (by decide) (by decide))
 | `(A1 $a $b)=>`(@mw _ _ _ _ _ $a $b (by rfl))
 | `(A2 $_)=>`(@Aw _)
 | `(A6 $_)=>`(@Hi _ _ _ _)
 | `(A7 $_)=>`(@J7 _ _ _ _)
 | `(A8 $a)=>`(@ze.str _ _ _ _ _ $a)
 | `(A9 $a $b)=>`(@zz _ _ _ _ _ $a $b)
 | `(AA $a)=>`(@E5 _ _ _ $a)
 | `(AB $a $b $c)=>`(@pe_ix _ _ _ _ _ _ _ $a $b $c (λ_ _=>rfl))
 | `(AC $a $b $c)=>`(@pe_has _ _ _ _ _ _ _ _ _ _ $a $b $c (by rfl) (by decide+kernel) (by rfl) (by rfl))
 | `(AD $a $b $c)=>`(@pe_op _ _ _ _ _ _ _ _ $a $b $c)
 | `(AE $_)=>`(@nomark _ _ (by decide) (by decide))
 | `(AF $a)=>`(@ps_ret _ _ _ _ $a)
 | `(AG $_)=>`(@E4 _)
 | `(AH $a $b $c $d $e)=>`(@ps_set _ _ $a _ _ _ _ $b rfl $c $d (by rfl) $e)
 | `(AI $a $b $c $d)=>`(@yz _ _ _ _ _ _ _ _ $a $b $c $d)
 | `(AJ $a $b $c)=>`(@ps_if _ _ _ _ _ _ _ _ $a $b $c)
 | `(AK $_)=>`(@K7 _)
 | `(AL $_)=>`(@op_eq _)
 | `(AM $a $b $c $d)=>`(@Kp _ _ _ _ _ _ _ _ _ $a rfl $b $c $d (by decide) (by decide) (by rfl) (by rfl))
 | `(AN $a)=>`(@pe_lst _ _ _ _ $a)
 | `(AO $_)=>`(@Mo _)
 | `(AQ $a $b $c $d $e $f)=>`(@pe_bm _ _ _ _ _ _ _ _ _ _ _ _ $a $b $c $d $e $f (by rfl) (by rfl) (by rfl) (by rfl) (by rfl))
 | `(AR $a $b $c $d)=>`(@J0 _ _ _ _ _ _ _ _ _ _ $a $b $c $d)
 | `(AS $a)=>`(@Kq _ _ _ $a)
 | `(AT $_)=>`(@M6 _)
 | `(AU $_)=>`(@r6 _)
 | `(AV $a)=>`(@pe_tup _ _ _ _ _ $a)
 | `(AW $a)=>`(@PW.pt _ _ _ $a)
 | `(AX $_)=>`(@K8 _)
 | `(AY $a $b $c $d $e)=>`(@i5.mk _ _ $a $b $c _ rfl rfl rfl rfl $d rfl $e)
 | `(AZ $a $b $c)=>`(@Ei _ _ $a _ $b rfl (aa1 rfl) $c)
 | `(B0 $a)=>`(@Lo _ _ _ _ $a (by rfl) (by decide+kernel))
 | `(B5 $a $b $c $d)=>`(@Fn _ _ _ _ _ _ _ _ _ $a rfl $b $c $d (by decide) (by decide) (by rfl) (by rfl))
 | `(B6 $a $b $c $d)=>`(@Ei _ _ $a _ $b rfl $c $d)
 | `(B7 $_)=>`(@Ci _)
 | `(B8 $a)=>`(@K9 _ _ _ $a (by intro _;rfl))
 | `(B9 $a)=>`(@Hj _ _ _ $a)
 | `(BA $_)=>`(@ze.nil)
 | `(BB $a $b)=>`(@pw_or _ _ _ _ _ _ _ $a $b)
 | `(BC $a)=>`(@Lu _ _ _ _ $a)
 | `(BD $a $b)=>`(@Mp _ _ _ _ _ $a $b)
 | `(BE $a $b)=>`(@Jk _ _ _ _ _ $a $b (by rfl))
 | `(BF $a $b $c $d)=>`(@Dm _ _ _ _ _ _ _ _ $a $b $c $d)
 | `(BG $a)=>`(@Ek _ _ _ _ $a (by rfl))
 | `(BH $a $b $c $d $e)=>`(@pe_lc _ _ _ _ _ _ _ _ _ _ _ _ _ _ _ $a rfl $b $c $d $e (by intro _;rfl))
 | `(BI $a $b)=>`(@pe_and _ _ _ _ _ _ _ $a $b)
 | `(BJ $a)=>`(@pe_one _ _ _ _ _ $a)
 | `(BK $a)=>`(@pt_not _ _ _ _ $a)
 | `(BL $_)=>`(@Md _)
 | `(BM $a)=>`(@pw_or1 _ _ _ _ $a)
 | `(BN $_)=>`(@pe_bl _ _ _ _)
 | `(BO $a $b)=>`(@pw_and _ _ _ _ _ _ _ $a $b)
 | `(BP $_)=>`(@Kx _)
 | `(BQ $_)=>`(@t4 _)
 | `(BR $a)=>`(@K2 _ _ _ _ $a)
 | `(BS $a $b $c)=>`(@Kr _ _ _ _ _ _ _ _ _ $a $b $c)
 | `(BT $_)=>`(@xb _)
 | `(BU $a $b $c)=>`(@Dm _ _ _ _ _ _ _ _ $a $b $c (by with_unfolding_all rfl))
 | `(BV $a)=>`(@Lg _ _ _ _ _ $a (by rfl) (by decide+kernel))
 | `(BW $a $b)=>`(@pe_or _ _ _ _ _ _ _ $a $b)
 | `(BX $a $b $c)=>`(@Kt _ _ _ _ _ _ _ _ PassesOwn.never rfl $a $b $c (by intro _;rfl))
 | `(BY $a $b)=>`(@pg_tup _ _ _ _ _ $a rfl $b (by rfl) (by rfl))
 | `(BZ $_)=>`(@ye _)
 | `(C0 $a $b)=>`(@Gi _ _ _ _ _ _ rfl $a $b (by rfl))
 | `(C1 $a $b $c $d $e $f $g $h)=>`(@Hh _ _ _ _ _ _ _ _ _ _ _ _ _ _ _ $a _ _ _ $b rfl (aa1 rfl) $c rfl $d $e $f $g (by rfl) (by intro _;rfl) $h)
 | `(C2 $_)=>`(@pj _)
 | `(C3 $a $b $c)=>`(@Lm _ _ _ _ _ _ $a $b $c (λ_ _=>rfl))
 | `(C5 $a $b)=>`(@pe_un _ _ _ _ _ _ $a $b)
 | `(C6 $a $b $c $d)=>`(@Kt _ _ _ _ _ _ _ _ $a rfl $b $c $d (by intro _;rfl))
 | `(C7 $a $b)=>`(@ps_asg _ _ _ _ _ _ $a $b (by rfl) (by rfl) (by rfl))
 | `(C8 $a $b $c)=>`(@pg_sub _ _ _ _ _ _ _ $a $b $c (by intro _;rfl))
 | `(C9 $a)=>`(@Mg _ _ _ _ _ $a (by rfl) (by decide+kernel))
 | `(CA $a $b $c)=>`(@Jb _ _ _ _ _ _ _ _ $a $b $c)
 | `(CB $a $b $c)=>`(@yz _ _ _ _ _ _ _ _ $a $b $c (by with_unfolding_all rfl))
 | `(CC $a $b $c $d)=>`(@M0 _ _ _ _ _ _ _ _ _ $a $b $c $d rfl)
 | `(CD $a $b)=>`(@pe_gty _ _ _ _ $a $b (by rfl) (by decide+kernel) (by decide+kernel))
set_option hygiene true
section
variable {P:Program} {w:World} {K:PySem.W.Frag} {mg:Str→Option Value} {base:Heap} {k:Nat} {κ:Cl}
noncomputable abbrev cw:Stmt:=(clBody (top 6)).getD 0 (.Pass ⟨0,0,0,0⟩)
theorem mr:au ["self","row"] ["self","row"] (af cw):=⟨rfl,rfl,rfl,by decide+kernel,rfl,by decide+kernel,by decide+kernel⟩
theorem sj {f:Addr} {fd:FuncData} (G:Gs w K mg κ) (h_row:PySem.W.findIn K (.ref κ.badRow) "row"=some none) (F:Fun K "__init__" "BadRow.__init__" cw f fd):h9 P w K mg base CX0 (k+1) f fd ["self","row"] (lu κ.badRow "row"):=by
 refine F.ok mr (λvs H Q E h=>?_) (λcdv A outer s H vs Q E hr h=>?_)
 ·obtain ⟨_,_,rfl,_,_⟩:=h;rfl
 have nd:=mr.nd;obtain ⟨a,v,rfl,ha,q⟩:=h;refine ⟨_,zz (Ek (Kf G.er.m_cov G.er.r_cov G.er.t_cov G.er.f_cov (mw (pv 0) (mw (pv 1) Aw)))) (E5 (Kz (pv 0) (pv 1) rfl)),?_⟩;rw[show start ["self","row"] [.ref a,v]=[some (.ref a),some v] from rfl];refine ⟨.ref a,rfl,v,rfl,a,κ.badRow,none,[v],cbm κ,rfl,ha,G.er.x_badRow,(by show 1≤100;decide),v,rfl,.ref a,rfl,a,κ.badRow,true,cbm κ,rfl,G.er.x_badRow,h_row,.inl ⟨ha,λdx hd ne=>q dx hd ne⟩⟩
noncomputable abbrev pq:Stmt:=top 20
theorem J6:au ["text","signs"] ["text","signs"] (af pq):=⟨rfl,rfl,rfl,by decide+kernel,rfl,by decide+kernel,by decide+kernel⟩
theorem Lw (G:Gs w K mg κ) (D:Def K mg "made_of" pq ["text","signs"]):Has P w K mg base (k+1) "made_of" ["text","signs"] my:=by
 refine D.has J6 (λvs H Q E h=>?_) (λf cdv A outer s H vs Q E hr h=>?_)
 ·obtain ⟨_,_,rfl,_,_⟩:=h;rfl
 have nd:=J6.nd;have hu:=br hr;have hu0:=aa9 hu;obtain ⟨z,y,rfl,hz,q⟩:=h;have m_all:=G.m_all;refine ⟨_,(AA (AF (AM (@gj _ rfl) m_all Hy (A1 (BH (AY ["sign"] ["signs"] [1] (aay rfl trivial) (aay (aay rfl (aay rfl rfl)) trivial)) (@pi_str _ _ _ _ (A0 0 (by first | exact aa1 rfl | exact aa0 (aa1 rfl) | exact aa0 (aa0 rfl)))) (λ_ _ _=>(AZ 0 (show aba (["sign","signs"]:List Str) by decide+kernel) (by first | exact .inl rfl | exact .inr rfl | assumption))) (λ_ _ _=>(@lb _)) (λ_ _ _=>(BU (@vc _) (A0 0 (by first | exact aa1 rfl | exact aa0 (aa1 rfl) | exact aa0 (aa0 rfl))) (A0 1 (by first | exact aa1 rfl | exact aa0 (aa1 rfl) | exact aa0 (aa0 rfl)))))) (A2 0))))),?_⟩;rw[show start ["text","signs"] [.str z,.str y]=[some (.str z),some (.str y)] from rfl];clear hu hu0 nd hr;push_cast [and_true];intro D hD;refine lc_str (λi ys=>ys=(z.cps.toList.take i).map λc=>V.bl (decide (c∈y.cps.toList))) (ab1 hz (by decide)) hD rfl (λi c ys H1 G' K' hc hP hl hS hG hK=>?_) (λys H' hP _ hS hL=>?_)
 ·push_cast [and_true];rw[StrLaws.found_one];refine hK _ _ (ao.refl _) ?_;rw[hP,aax,hc];simp
 ·rw[oq,aat] at hP;refine ⟨z.cps.toList.map λc=>decide (c∈y.cps.toList),SqL.of (by rw[hL,hP,abo];rfl),?_⟩;rw[ae1];exact q H' hS
noncomputable abbrev qo:Stmt:=top 21
theorem Jw:au ["word"] ["word"] (af qo):=⟨rfl,rfl,rfl,by decide+kernel,rfl,by decide+kernel,by decide+kernel⟩
theorem K3 (G:Gs w K mg κ) (h_made_of:Has P w K mg base k "made_of" ["text","signs"] my) (D:Def K mg "is_name" qo ["word"]):Has P w K mg base (k+1) "is_name" ["word"] gh:=by
 refine D.has Jw (λvs H Q E h=>?_) (λf cdv A outer s H vs Q E hr h=>?_)
 ·obtain ⟨_,rfl,_,_⟩:=h;rfl
 have nd:=Jw.nd;have hu:=br hr;have hu0:=aa9 hu;obtain ⟨z,rfl,hz,q⟩:=h;obtain ⟨a_KEPT_WORDS,m_KEPT_WORDS,s_KEPT_WORDS⟩:=G.m_KEPT_WORDS;obtain ⟨_,m_LETTERS⟩:=G.m_LETTERS;obtain ⟨_,m_MOST_LETTERS⟩:=G.m_MOST_LETTERS;have m_len:=G.m_len;refine ⟨_,(A9 (AJ (AW (BB (AI (@ip _) (AM (BT 0) m_len b8 (A1 (A0 0 (by first | exact aa1 rfl | exact aa0 (aa1 rfl) | exact aa0 (aa0 rfl))) (A2 0))) (A6 0) (AE 0)) (BM (AI (@g8 _) (AM (BT 0) m_len b8 (A1 (A0 0 (by first | exact aa1 rfl | exact aa0 (aa1 rfl) | exact aa0 (aa0 rfl))) (A2 0))) (BV m_MOST_LETTERS) (AE 0))))) (AA (AF (BN 0))) (AK 0)) (AA (AF (BI (AC h_made_of hr (A1 (A0 0 (by first | exact aa1 rfl | exact aa0 (aa1 rfl) | exact aa0 (aa0 rfl))) (A1 (C9 m_LETTERS) (A2 0)))) (BJ (BU (@mq _) (A0 0 (by first | exact aa1 rfl | exact aa0 (aa1 rfl) | exact aa0 (aa0 rfl))) (B0 m_KEPT_WORDS))))))),?_⟩;rw[show start ["word"] [.str z]=[some (.str z)] from rfl];clear hu hu0 nd hr;push_cast [my,rIn];refine ⟨big hz,bc (λc=>?_) λc=>⟨big hz,bc (λc2=>?_) λc2=>⟨hz,λH' hS=>bc (λc3=>?_) λc3=>?_⟩⟩⟩
 ·have e:ax z=false:=by unfold ax;rw[decide_eq_false (by omega)];rfl
  exact e ▸ q H (ao.refl H)
 ·have e:ax z=false:=by unfold ax;rw[decide_eq_false (show ¬z.length≤8 by omega)];simp
  exact e ▸ q H (ao.refl H)
 ·refine ⟨i3,.inr (s_KEPT_WORDS H'),rfl,rfl,?_⟩;have e:ax z=!inV (.str z) i3:=by
   unfold ax;rw[decide_eq_true (show 1≤z.length by omega),decide_eq_true (show z.length≤8 by omega),c3];simp
  exact e ▸ q H' hS
 ·have e:ax z=false:=by unfold ax;rw[Bool.eq_false_iff.mpr c3];simp
  exact e ▸ q H' hS
noncomputable abbrev Ck:Stmt:=top 22
theorem scNum:au ["word","figures"] ["word"] (af Ck):=⟨rfl,rfl,rfl,by decide+kernel,rfl,by decide+kernel,by decide+kernel⟩
theorem hasNum (G:Gs w K mg κ) (h_made_of:Has P w K mg base k "made_of" ["text","signs"] my) (D:Def K mg "is_number" Ck ["word"]):Has P w K mg base (k+1) "is_number" ["word"] jx:=by
 refine D.has scNum (λvs H Q E h=>?_) (λf cdv A outer s H vs Q E hr h=>?_)
 ·obtain ⟨_,rfl,_,_⟩:=h;rfl
 have nd:=scNum.nd;have hu:=br hr;have hu0:=aa9 hu;obtain ⟨z,rfl,hz,q⟩:=h;obtain ⟨_,m_FIGURES⟩:=G.m_FIGURES;obtain ⟨_,m_MOST_FIGURES⟩:=G.m_MOST_FIGURES;have m_len:=G.m_len;refine ⟨_,(A9 (AH 1 nd (by first | exact aa1 rfl | exact aa0 rfl) (CA (B8 (AQ PySem.F.plainAttrs_str PySem.F.slot_str_startswith PySem.F.type_str_startswith (@sq _) (A0 0 (by first | exact aa1 rfl | exact aa0 (aa1 rfl) | exact aa0 (aa0 rfl))) (A1 (A7 0) (A2 0)))) (AR (@Cj _) (A0 0 (by first | exact aa1 rfl | exact aa0 (aa1 rfl) | exact aa0 (aa0 rfl))) (AS (A6 0)) (AT 0)) (A0 0 (by first | exact aa1 rfl | exact aa0 (aa1 rfl) | exact aa0 (aa0 rfl)))) (by first | exact .inl rfl | exact .inr rfl | assumption)) (A9 (AJ (AW (BB (AI (@ip _) (AM (BT 0) m_len b8 (A1 (A0 1 (by first | exact aa1 rfl | exact aa0 (aa1 rfl) | exact aa0 (aa0 rfl))) (A2 0))) (A6 0) (AE 0)) (BM (AI (@g8 _) (AM (BT 0) m_len b8 (A1 (A0 1 (by first | exact aa1 rfl | exact aa0 (aa1 rfl) | exact aa0 (aa0 rfl))) (A2 0))) (BV m_MOST_FIGURES) (AE 0))))) (AA (AF (BN 0))) (AK 0)) (A9 (AJ (BK (B8 (AC h_made_of hr (A1 (A0 1 (by first | exact aa1 rfl | exact aa0 (aa1 rfl) | exact aa0 (aa0 rfl))) (A1 (C9 m_FIGURES) (A2 0)))))) (AA (AF (BN 0))) (AK 0)) (AA (AF (BW (BF (AL 0) (A0 0 (by first | exact aa1 rfl | exact aa0 (aa1 rfl) | exact aa0 (aa0 rfl))) (A7 0) (AE 0)) (BJ (BF (@rf _) (AB (@m6 _) (A0 1 (by first | exact aa1 rfl | exact aa0 (aa1 rfl) | exact aa0 (aa0 rfl))) (A6 0)) (A7 0) (AE 0))))))))),?_⟩;rw[show start ["word","figures"] [.str z]=[some (.str z),none] from rfl];clear hu hu0 nd hr;push_cast [my,rIxS,scal];rw[Lc];refine bc (λc=>?_) λc=>?_
 ·have c':z.cps.toList.head?=some 45:=of_decide_eq_true c;refine ⟨big hz,Eh z _ (by rw[cut1];unfold eh;rw[if_pos c']) (aak (Ew z _ _) hz) q⟩
 ·have c':¬z.cps.toList.head?=some 45:=of_decide_eq_false (Bool.eq_false_iff.mpr c);exact Eh z z (by unfold eh;rw[if_neg c']) hz q
noncomputable abbrev Co:Stmt:=top 23
theorem scHow:au ["word"] ["word"] (af Co):=⟨rfl,rfl,rfl,by decide+kernel,rfl,by decide+kernel,by decide+kernel⟩
theorem hasHow (G:Gs w K mg κ) (D:Def K mg "how_many_below" Co ["word"]):Has P w K mg base (k+1) "how_many_below" ["word"] Cz:=by
 refine D.has scHow (λvs H Q E h=>?_) (λf cdv A outer s H vs Q E hr h=>?_)
 ·obtain ⟨_,rfl,_,_⟩:=h;rfl
 have nd:=scHow.nd;have hu:=br hr;have hu0:=aa9 hu;obtain ⟨v,rfl,hw,q⟩:=h;obtain ⟨a_PARTS_BELOW,m_PARTS_BELOW,s_PARTS_BELOW⟩:=G.m_PARTS_BELOW;refine ⟨_,(AA (AF (@Hv _ _ _ _ _ _ _ _ _ _ (B0 m_PARTS_BELOW) s_PARTS_BELOW (A0 0 (by first | exact aa1 rfl | exact aa0 (aa1 rfl) | exact aa0 (aa0 rfl))) (A6 0) (@M2.mk _ _ _ _ _ _ _ rfl rfl rfl rfl)))),?_⟩;rw[show start ["word"] [v]=[some (v)] from rfl];clear hu hu0 nd hr;push_cast [He];obtain ⟨k,rfl⟩:=hw;refine ⟨k,rfl,?_⟩;show Q ((bz parts k).getD (V.int 0)) H
 rw[Fq];exact q
noncomputable abbrev kc:Stmt:=top 24
theorem Df:au ["word"] ["word"] (af kc):=⟨rfl,rfl,rfl,by decide+kernel,rfl,by decide+kernel,by decide+kernel⟩
theorem Jx (G:Gs w K mg κ) (h_is_name:Has P w K mg base k "is_name" ["word"] gh) (h_is_number:Has P w K mg base k "is_number" ["word"] jx) (D:Def K mg "is_term_word" kc ["word"]):Has P w K mg base (k+1) "is_term_word" ["word"] spTW:=by
 refine D.has Df (λvs H Q E h=>?_) (λf cdv A outer s H vs Q E hr h=>?_)
 ·obtain ⟨_,rfl,_,_⟩:=h;rfl
 have nd:=Df.nd;have hu:=br hr;have hu0:=aa9 hu;obtain ⟨z,rfl,hz,q⟩:=h;obtain ⟨a_PARTS_BELOW,m_PARTS_BELOW,s_PARTS_BELOW⟩:=G.m_PARTS_BELOW;refine ⟨_,(AA (AF (BW (AC h_is_number hr (A1 (A0 0 (by first | exact aa1 rfl | exact aa0 (aa1 rfl) | exact aa0 (aa0 rfl))) (A2 0))) (BW (AC h_is_name hr (A1 (A0 0 (by first | exact aa1 rfl | exact aa0 (aa1 rfl) | exact aa0 (aa0 rfl))) (A2 0))) (BJ (BU (@Fe _ _ _ s_PARTS_BELOW) (A0 0 (by first | exact aa1 rfl | exact aa0 (aa1 rfl) | exact aa0 (aa0 rfl))) (B0 m_PARTS_BELOW))))))),?_⟩;rw[show start ["word"] [.str z]=[some (.str z)] from rfl];clear hu hu0 nd hr;push_cast [gh,jx];refine ⟨hz,λH' s1=>bc (λc=>?_) λc=>⟨hz,λH2 s2=>bc (λc2=>?_) λc2=>⟨Sum.inr z,rfl,?_⟩⟩⟩
 ·have q1:=q H' s1;rw[c,ab3,ab3] at q1;exact q1
 ·have q1:=q H2 (s1.trans s2);rw[Bool.eq_false_iff.mpr c,c2,ac0,ab3] at q1;exact q1
 ·have q1:=q H2 (s1.trans s2);rw[Bool.eq_false_iff.mpr c,Bool.eq_false_iff.mpr c2,ac0,ac0] at q1;show Q (V.bl (bz parts (Sum.inr z)).isSome) H2
  rw[Ir];exact q1
noncomputable abbrev qc:Stmt:=top 25
theorem Ku:au ["word"] ["word"] (af qc):=⟨rfl,rfl,rfl,by decide+kernel,rfl,by decide+kernel,by decide+kernel⟩
theorem Mq (G:Gs w K mg κ) (h_is_number:Has P w K mg base k "is_number" ["word"] jx) (D:Def K mg "number_or_text" qc ["word"]):Has P w K mg base (k+1) "number_or_text" ["word"] qd:=by
 refine D.has Ku (λvs H Q E h=>?_) (λf cdv A outer s H vs Q E hr h=>?_)
 ·obtain ⟨_,rfl,_,_⟩:=h;rfl
 have nd:=Ku.nd;have hu:=br hr;have hu0:=aa9 hu;obtain ⟨v,rfl,hw,q⟩:=h;have m_int:=G.m_int;refine ⟨_,(AA (AF (CA (B8 (AC h_is_number hr (A1 (A0 0 (by first | exact aa1 rfl | exact aa0 (aa1 rfl) | exact aa0 (aa0 rfl))) (A2 0)))) (B5 (@eo _) m_int uc (A1 (A0 0 (by first | exact aa1 rfl | exact aa0 (aa1 rfl) | exact aa0 (aa0 rfl))) (A2 0))) (A0 0 (by first | exact aa1 rfl | exact aa0 (aa1 rfl) | exact aa0 (aa0 rfl)))))),?_⟩;rw[show start ["word"] [.str (ag v)]=[some (.str (ag v))] from rfl];clear hu hu0 nd hr;push_cast [jx];have hl:=hw.text.1;refine ⟨by omega,λH' hS=>?_⟩;cases v with
 | int i=>
  have r:=dz hw;rw[if_pos r.1];exact ⟨i,r.2.1,by omega,q H' hS⟩
 | str z=>
  rw[if_neg (by show ¬cg z=true;rw[hw.1];decide)];exact q H' hS
 | _=>exact hw.elim
noncomputable abbrev Bc:Stmt:=top 27
theorem scShB:au ["word"] ["word"] (af Bc):=⟨rfl,rfl,rfl,by decide+kernel,rfl,by decide+kernel,by decide+kernel⟩
theorem hasShB (G:Gs w K mg κ) (h_is_term_word:Has P w K mg base k "is_term_word" ["word"] spTW) (D:Def K mg "is_shape_word" Bc ["word"]):Has P w K mg base (k+1) "is_shape_word" ["word"] yt:=by
 refine D.has scShB (λvs H Q E h=>?_) (λf cdv A outer s H vs Q E hr h=>?_)
 ·obtain ⟨_,rfl,_,_⟩:=h;rfl
 have nd:=scShB.nd;have hu:=br hr;have hu0:=aa9 hu;obtain ⟨z,rfl,hz,q⟩:=h;refine ⟨_,(AA (AF (BW (AC h_is_term_word hr (A1 (A0 0 (by first | exact aa1 rfl | exact aa0 (aa1 rfl) | exact aa0 (aa0 rfl))) (A2 0))) (BJ (BU (@jq _) (A0 0 (by first | exact aa1 rfl | exact aa0 (aa1 rfl) | exact aa0 (aa0 rfl))) (AV (A1 (A7 0) (A1 (A7 0) (A2 0))))))))),?_⟩;rw[show start ["word"] [.str z]=[some (.str z)] from rfl];clear hu hu0 nd hr;push_cast [spTW,rIn];refine ⟨hz,λH1 s1=>bc (λc=>?_) λc=>⟨by show (2:Nat)≤sizeLine;decide,λp hp=>⟨_,.inr (SqT.of aa),rfl,rfl,?_⟩⟩⟩
 ·have q1:=q H1 s1;unfold shB at q1;rw[c,ab3] at q1;exact q1
 ·have q1:=q _ (s1.trans (ae hp (.tup [V.str (Str.ofString "any"),V.str (Str.ofString "var")])));unfold shB at q1;rw[Bool.eq_false_iff.mpr c,ac0] at q1;exact q1
noncomputable abbrev ky:Stmt:=top 34
theorem Eu:au ["word","letter"] ["word","letter"] (af ky):=⟨rfl,rfl,rfl,by decide+kernel,rfl,by decide+kernel,by decide+kernel⟩
theorem Iz (G:Gs w K mg κ) (D:Def K mg "is_leaf_name" ky ["word","letter"]):Has P w K mg base (k+1) "is_leaf_name" ["word","letter"] jt:=by
 refine D.has Eu (λvs H Q E h=>?_) (λf cdv A outer s H vs Q E hr h=>?_)
 ·obtain ⟨_,_,rfl,_,_⟩:=h;rfl
 have nd:=Eu.nd;have hu:=br hr;have hu0:=aa9 hu;obtain ⟨z,l,rfl,hz,q⟩:=h;obtain ⟨_,m_LEAF_NUMBERS⟩:=G.m_LEAF_NUMBERS;have m_len:=G.m_len;refine ⟨_,(AA (AF (BI (BF (AL 0) (AM (BT 0) m_len b8 (A1 (A0 0 (by first | exact aa1 rfl | exact aa0 (aa1 rfl) | exact aa0 (aa0 rfl))) (A2 0))) (A6 0) (AE 0)) (BI (BF (AL 0) (AB (@m6 _) (A0 0 (by first | exact aa1 rfl | exact aa0 (aa1 rfl) | exact aa0 (aa0 rfl))) (A6 0)) (A0 1 (by first | exact aa1 rfl | exact aa0 (aa1 rfl) | exact aa0 (aa0 rfl))) (AE 0)) (BJ (BU (@vc _) (AB (@m6 _) (A0 0 (by first | exact aa1 rfl | exact aa0 (aa1 rfl) | exact aa0 (aa0 rfl))) (A6 0)) (C9 m_LEAF_NUMBERS))))))),?_⟩;rw[show start ["word","letter"] [.str z,.str ⟨#[l]⟩]=[some (.str z),some (.str ⟨#[l]⟩)] from rfl];clear hu hu0 nd hr;push_cast [rIxS];refine ⟨big hz,rfl,bc (λc=>?_) λc=>?_⟩
 ·have c2:z.length=2:=by omega
  rw[oq] at c2;obtain ⟨a,b,e⟩:∃a b,z.cps.toList=[a,b]:=by
   match h:z.cps.toList,c2 with
   | [a,b],_=>exact ⟨a,b,rfl⟩
  have q1:=q H (ao.refl _);rw[leaf2 e] at q1;refine ⟨big hz,a,by rw[e];rfl,rfl,bc (λea=>⟨big hz,b,by rw[e];rfl,?_⟩) λea=>?_⟩
  ·rw[in_nums];have:a=l:=by simpa using ea
   rw[decide_eq_true this,ab0] at q1;exact q1
  ·have:a≠l:=λh=>ea (by rw[h]);rw[decide_eq_false this,aa7] at q1;exact q1
 ·have q1:=q H (ao.refl _);rw[Mv (by omega)] at q1;exact q1
noncomputable abbrev rb:Stmt:=top 35
theorem Hl:au ["word"] ["word"] (af rb):=⟨rfl,rfl,rfl,by decide+kernel,rfl,by decide+kernel,by decide+kernel⟩
theorem Ll (G:Gs w K mg κ) (h_is_leaf_name:Has P w K mg base k "is_leaf_name" ["word","letter"] jt) (D:Def K mg "is_from" rb ["word"]):Has P w K mg base (k+1) "is_from" ["word"] vx:=by
 refine D.has Hl (λvs H Q E h=>?_) (λf cdv A outer s H vs Q E hr h=>?_)
 ·obtain ⟨_,rfl,_,_⟩:=h;rfl
 have nd:=Hl.nd;have hu:=br hr;have hu0:=aa9 hu;obtain ⟨z,rfl,hz,q⟩:=h;obtain ⟨a_BOXES,m_BOXES,s_BOXES⟩:=G.m_BOXES;refine ⟨_,(AA (AF (BW (BU (@jq _) (A0 0 (by first | exact aa1 rfl | exact aa0 (aa1 rfl) | exact aa0 (aa0 rfl))) (B0 m_BOXES)) (BJ (AC h_is_leaf_name hr (A1 (A0 0 (by first | exact aa1 rfl | exact aa0 (aa1 rfl) | exact aa0 (aa0 rfl))) (A1 (A7 0) (A2 0)))))))),?_⟩;rw[show start ["word"] [.str z]=[some (.str z)] from rfl];clear hu hu0 nd hr;push_cast [jt,rIn];refine ⟨kz,.inr (s_BOXES H),rfl,rfl,bc (λc=>?_) λc=>⟨104,by decide+kernel,hz,λH1 s1=>?_⟩⟩
 ·have q1:=q H (ao.refl _);unfold p0 j9 at q1;rw[show inV (.str z) kz=true from c,ab3] at q1;exact q1
 ·have q1:=q H1 s1;unfold p0 j9 at q1;rw[show inV (.str z) kz=false from Bool.eq_false_iff.mpr c,ac0] at q1;exact q1
noncomputable abbrev Cr:Stmt:=top 36
theorem scSrc:au ["deed","word"] ["deed","word"] (af Cr):=⟨rfl,rfl,rfl,by decide+kernel,rfl,by decide+kernel,by decide+kernel⟩
theorem hasSrc (G:Gs w K mg κ) (h_is_from:Has P w K mg base k "is_from" ["word"] vx) (h_is_leaf_name:Has P w K mg base k "is_leaf_name" ["word","letter"] jt) (h_is_number:Has P w K mg base k "is_number" ["word"] jx) (D:Def K mg "is_source" Cr ["deed","word"]):Has P w K mg base (k+1) "is_source" ["deed","word"] Al:=by
 refine D.has scSrc (λvs H Q E h=>?_) (λf cdv A outer s H vs Q E hr h=>?_)
 ·obtain ⟨_,_,rfl,_,_⟩:=h;rfl
 have nd:=scSrc.nd;have hu:=br hr;have hu0:=aa9 hu;obtain ⟨d,z,rfl,hz,q⟩:=h;refine ⟨_,(A9 (AJ (AI (AL 0) (A0 0 (by first | exact aa1 rfl | exact aa0 (aa1 rfl) | exact aa0 (aa0 rfl))) (A7 0) (AE 0)) (AA (AF (BW (AC h_is_number hr (A1 (A0 1 (by first | exact aa1 rfl | exact aa0 (aa1 rfl) | exact aa0 (aa0 rfl))) (A2 0))) (BJ (AC h_is_leaf_name hr (A1 (A0 1 (by first | exact aa1 rfl | exact aa0 (aa1 rfl) | exact aa0 (aa0 rfl))) (A1 (A7 0) (A2 0)))))))) (AK 0)) (A9 (AJ (AI (AL 0) (A0 0 (by first | exact aa1 rfl | exact aa0 (aa1 rfl) | exact aa0 (aa0 rfl))) (A7 0) (AE 0)) (AA (AF (AC h_is_leaf_name hr (A1 (A0 1 (by first | exact aa1 rfl | exact aa0 (aa1 rfl) | exact aa0 (aa0 rfl))) (A1 (A7 0) (A2 0)))))) (AK 0)) (AA (AF (AC h_is_from hr (A1 (A0 1 (by first | exact aa1 rfl | exact aa0 (aa1 rfl) | exact aa0 (aa0 rfl))) (A2 0))))))),?_⟩;rw[show start ["deed","word"] [.str d,.str z]=[some (.str d),some (.str z)] from rfl];clear hu hu0 nd hr;push_cast [vx,jt,jx];unfold dr at q;refine ⟨rfl,bc (λc=>⟨hz,λH1 s1=>bc (λc1=>?_) λc1=>⟨110,by decide+kernel,hz,λH2 s2=>?_⟩⟩) λc=>⟨rfl,bc (λc1=>⟨118,by decide+kernel,hz,λH1 s1=>?_⟩) λc1=>⟨hz,λH1 s1=>?_⟩⟩⟩
 ·have q1:=q H1 s1;rw[if_pos c,c1,ab3] at q1;exact q1
 ·have q1:=q H2 (s1.trans s2);rw[if_pos c,Bool.eq_false_iff.mpr c1,ac0] at q1;exact q1
 ·have q1:=q H1 s1;rw[if_neg c,if_pos c1] at q1;exact q1
 ·have q1:=q H1 s1;rw[if_neg c,if_neg c1] at q1;exact q1
noncomputable abbrev qw:Stmt:=top 37
theorem Hd:au ["deed"] ["deed"] (af qw):=⟨rfl,rfl,rfl,by decide+kernel,rfl,by decide+kernel,by decide+kernel⟩
theorem Lq (G:Gs w K mg κ) (h_how_many_below:Has P w K mg base k "how_many_below" ["word"] Cz) (D:Def K mg "how_many_sources" qw ["deed"]):Has P w K mg base (k+1) "how_many_sources" ["deed"] wy:=by
 refine D.has Hd (λvs H Q E h=>?_) (λf cdv A outer s H vs Q E hr h=>?_)
 ·obtain ⟨_,rfl,_⟩:=h;rfl
 have nd:=Hd.nd;have hu:=br hr;have hu0:=aa9 hu;obtain ⟨d,rfl,q⟩:=h;refine ⟨_,(AA (AF (CA (CB (@jq _) (A0 0 (by first | exact aa1 rfl | exact aa0 (aa1 rfl) | exact aa0 (aa0 rfl))) (AV (A1 (A7 0) (A1 (A7 0) (A2 0))))) (A6 0) (AC h_how_many_below hr (A1 (A0 0 (by first | exact aa1 rfl | exact aa0 (aa1 rfl) | exact aa0 (aa0 rfl))) (A2 0)))))),?_⟩;rw[show start ["deed"] [.str d]=[some (.str d)] from rfl];clear hu hu0 nd hr;push_cast [Cz,rIn];refine ⟨by show (2:Nat)≤sizeLine;decide,λp hp=>⟨_,.inr (SqT.of aa),rfl,rfl,?_⟩⟩;have q1:=q _ (ae hp (.tup [V.str (Str.ofString "put"),V.str (Str.ofString "load")]));refine bc (λc=>?_) λc=>⟨isW.str d,?_⟩
 ·have:d="put"∨d="load":=by
   have:=Eb c;simpa using this
  unfold arQ at q1;rw[if_pos this] at q1;exact q1
 ·have:¬(d="put"∨d="load"):=by
   intro h;refine c (Na ?_);rcases h with rfl | rfl
   ·exact aa6
   ·exact aab _ aa6
  unfold arQ at q1;rw[if_neg this] at q1;exact q1
noncomputable abbrev ka:Stmt:=top 38
theorem Ed:au ["words"] ["words"] (af ka):=⟨rfl,rfl,rfl,by decide+kernel,rfl,by decide+kernel,by decide+kernel⟩
theorem Ik (G:Gs w K mg κ) (h_how_many_sources:Has P w K mg base k "how_many_sources" ["deed"] wy) (h_is_source:Has P w K mg base k "is_source" ["deed","word"] Al) (D:Def K mg "is_deed" ka ["words"]):Has P w K mg base (k+1) "is_deed" ["words"] oh:=by
 refine D.has Ed (λvs H Q E h=>?_) (λf cdv A outer s H vs Q E hr h=>?_)
 ·obtain ⟨_,_,rfl,_,_,_,_⟩:=h;rfl
 have nd:=Ed.nd;have hu:=br hr;have hu0:=aa9 hu;obtain ⟨a,ts,rfl,ha,hz,hl,q⟩:=h;obtain ⟨a_BOXES,m_BOXES,s_BOXES⟩:=G.m_BOXES;have m_all:=G.m_all;have m_len:=G.m_len;refine ⟨_,(A9 (AJ (AW (BB (AI (@ip _) (AM (AU 0) m_len b8 (A1 (A0 0 (by first | exact aa1 rfl | exact aa0 (aa1 rfl) | exact aa0 (aa0 rfl))) (A2 0))) (A6 0) (AE 0)) (BM (CB (@mq _) (AB (AG 0) (A0 0 (by first | exact aa1 rfl | exact aa0 (aa1 rfl) | exact aa0 (aa0 rfl))) (A6 0)) (B0 m_BOXES))))) (AA (AF (BN 0))) (AK 0)) (A9 (AJ (AI (@rf _) (AM (AU 0) m_len b8 (A1 (A0 0 (by first | exact aa1 rfl | exact aa0 (aa1 rfl) | exact aa0 (aa0 rfl))) (A2 0))) (AD (AO 0) (A6 0) (AC h_how_many_sources hr (A1 (AB (AG 0) (A0 0 (by first | exact aa1 rfl | exact aa0 (aa1 rfl) | exact aa0 (aa0 rfl))) (A6 0)) (A2 0)))) (AE 0)) (AA (AF (BN 0))) (AK 0)) (AA (AF (AM (@gj _ rfl) m_all Hy (A1 (BH (AY ["word"] ["words"] [0] (aay rfl trivial) (aay (aay rfl (aay rfl rfl)) trivial)) (BC (AR (AX 0) (A0 0 (by first | exact aa1 rfl | exact aa0 (aa1 rfl) | exact aa0 (aa0 rfl))) (AS (A6 0)) (AT 0))) (λ_ _ _=>(AZ 0 (show aba (["word","words"]:List Str) by decide+kernel) (by first | exact .inl rfl | exact .inr rfl | assumption))) (λ_ _ _=>(@lb _)) (λ_ _ _=>(AC h_is_source hr (A1 (AB (@ma _ K rfl) (A0 1 (by first | exact aa1 rfl | exact aa0 (aa1 rfl) | exact aa0 (aa0 rfl))) (A6 0)) (A1 (A0 0 (by first | exact aa1 rfl | exact aa0 (aa1 rfl) | exact aa0 (aa0 rfl))) (A2 0)))))) (A2 0))))))),?_⟩;rw[show start ["words"] [.ref a]=[some (.ref a)] from rfl];clear hu hu0 nd hr;push_cast [wy,Al,rIn];have sz:=sizeLine_eq;have tl:(ts.map V.str).length=ts.length:=aa2 _;unfold ff at q;refine ⟨_,.inl (SqL.of ha),?_⟩;rw[tl];refine bc (λc=>?_) λc=>?_
 ·have q1:=q H (ao.refl _);rw[decide_eq_false (show ¬3≤ts.length by omega),aa7,aa7,aa7] at q1;exact q1
 rw[decide_eq_true (show 3≤ts.length by omega),ab0] at q;refine ah ha (bp (k:=1) (by omega)) ⟨kz,.inr (s_BOXES H),rfl,rfl,?_⟩;show if (!inV (.str (ts.getD 1 "")) kz)=true then _ else _
 refine bc (λc1=>?_) λc1=>⟨_,.inl (SqL.of ha),?_⟩
 ·have q1:=q H (ao.refl _);unfold j9 at q1;rw[show inV (.str (ts.getD 1 "")) kz=false by simpa using c1,aa7,aa7] at q1;exact q1
 have bt:j9 (ts.getD 1 "")=true:=by
  unfold j9;simpa using c1
 rw[bt,ab0] at q;refine ah ha (bp (k:=0) (by omega)) ⟨_,rfl,λH1 s1=>⟨rfl,?_⟩⟩;rw[tl,show decide ((ts.length:Int)=2+(arQ (ts.getD 0 ""):Int))=decide (ts.length=2+arQ (ts.getD 0 "")) from decide_eq_decide.mpr (by omega)];refine bc (λc2=>?_) λc2=>?_
 ·have q1:=q H1 s1;rw[show decide (ts.length=2+arQ (ts.getD 0 ""))=false by simpa using c2,aa7] at q1;exact q1
 rw[show decide (ts.length=2+arQ (ts.getD 0 ""))=true by simpa using c2,ab0] at q;refine ⟨_,SqL.of (s1 _ _ ha),λp hp=>?_⟩;rw[show ck (ts.map V.str) (some 2) none=(ts.drop 2).map V.str from cx ts 2];refine ⟨⟨_,SqL.of aa⟩,λD hD=>gy (λi ys=>ys=((ts.drop 2).take i).map λz=>V.bl (dr (ts.getD 0 "") z)) (SqL.of aa) (by rw[aa2,aaf];omega) hD rfl (λi x ys H2 G' K' hx hP hl2 hS hG hK=>?_) λys H2 hP hl2 hS hD2=>?_⟩
 ·rw[aag] at hx;obtain ⟨z,hx',rfl⟩:=Option.map_eq_some_iff.mp hx;push_cast [Al];refine ah (hS _ _ (ae hp _ _ _ (s1 _ _ ha))) (bp (k:=0) (by omega)) ⟨_,rfl,hz z (ab8 (aap hx')),λH3 s3=>hK _ _ s3 ?_⟩;rw[hP,aax,hx',aad];rfl
 ·rw[aa2,aat] at hP;refine ⟨(ts.drop 2).map λz=>dr (ts.getD 0 "") z,SqL.of (by rw[hD2,hP,abo];rfl),?_⟩;rw[ae1];exact q H2 (s1.trans ((ae hp _).trans hS))
noncomputable abbrev Ax:Stmt:=top 39
theorem scPrB:au ["word"] ["word"] (af Ax):=⟨rfl,rfl,rfl,by decide+kernel,rfl,by decide+kernel,by decide+kernel⟩
theorem hasPrB (G:Gs w K mg κ) (h_is_number:Has P w K mg base k "is_number" ["word"] jx) (D:Def K mg "is_price" Ax ["word"]):Has P w K mg base (k+1) "is_price" ["word"] Dq:=by
 refine D.has scPrB (λvs H Q E h=>?_) (λf cdv A outer s H vs Q E hr h=>?_)
 ·obtain ⟨_,rfl,_,_,_⟩:=h;rfl
 have nd:=scPrB.nd;have hu:=br hr;have hu0:=aa9 hu;obtain ⟨z,rfl,hz,hn,q⟩:=h;obtain ⟨_,m_MOST_PRICE⟩:=G.m_MOST_PRICE;have m_int:=G.m_int;refine ⟨_,(AA (AF (BI (AC h_is_number hr (A1 (A0 0 (by first | exact aa1 rfl | exact aa0 (aa1 rfl) | exact aa0 (aa0 rfl))) (A2 0))) (BI (BF (@Hq _) (A6 0) (B5 (@eo _) m_int uc (A1 (A0 0 (by first | exact aa1 rfl | exact aa0 (aa1 rfl) | exact aa0 (aa0 rfl))) (A2 0))) (AE 0)) (BJ (BF (@Hq _) (B5 (@eo _) m_int uc (A1 (A0 0 (by first | exact aa1 rfl | exact aa0 (aa1 rfl) | exact aa0 (aa0 rfl))) (A2 0))) (BV m_MOST_PRICE) (AE 0))))))),?_⟩;rw[show start ["word"] [.str z]=[some (.str z)] from rfl];clear hu hu0 nd hr;push_cast [jx];unfold dh at q;refine ⟨hz,λH1 s1=>bc (λc=>?_) λc=>?_⟩
 ·obtain ⟨i,hi⟩:=hn c;have hz2:z.length≤640:=Lp c;have q1:=q H1 s1;rw[c,ab0,hi] at q1;refine ⟨i,hi,hz2,bc (λc1=>⟨i,hi,hz2,?_⟩) λc1=>?_⟩
  ·have q1:Q (.bl (decide (1≤i)&&decide (i≤999999))) H1:=q1;rw[decide_eq_true c1,ab0] at q1;exact q1
  ·have q1:Q (.bl (decide (1≤i)&&decide (i≤999999))) H1:=q1;rw[decide_eq_false c1,aa7] at q1;exact q1
 ·have q1:=q H1 s1;rw[Bool.eq_false_iff.mpr c,aa7] at q1;exact q1
noncomputable abbrev ku:Stmt:=top 40
theorem Dc:au ["words"] ["words"] (af ku):=⟨rfl,rfl,rfl,by decide+kernel,rfl,by decide+kernel,by decide+kernel⟩
theorem J9 (G:Gs w K mg κ) (h_is_name:Has P w K mg base k "is_name" ["word"] gh) (D:Def K mg "is_kind_row" ku ["words"]):Has P w K mg base (k+1) "is_kind_row" ["words"] n6:=by
 refine D.has Dc (λvs H Q E h=>?_) (λf cdv A outer s H vs Q E hr h=>?_)
 ·obtain ⟨_,_,rfl,_,_,_,_⟩:=h;rfl
 have nd:=Dc.nd;have hu:=br hr;have hu0:=aa9 hu;obtain ⟨a,ts,rfl,ha,hz,hl,q⟩:=h;have m_len:=G.m_len;refine ⟨_,(AA (AF (BI (BF (AL 0) (AM (AU 0) m_len b8 (A1 (A0 0 (by first | exact aa1 rfl | exact aa0 (aa1 rfl) | exact aa0 (aa0 rfl))) (A2 0))) (A6 0) (AE 0)) (BI (BF (AL 0) (AB (AG 0) (A0 0 (by first | exact aa1 rfl | exact aa0 (aa1 rfl) | exact aa0 (aa0 rfl))) (A6 0)) (A7 0) (AE 0)) (BJ (AC h_is_name hr (A1 (AB (AG 0) (A0 0 (by first | exact aa1 rfl | exact aa0 (aa1 rfl) | exact aa0 (aa0 rfl))) (A6 0)) (A2 0)))))))),?_⟩;rw[show start ["words"] [.ref a]=[some (.ref a)] from rfl];clear hu hu0 nd hr;push_cast [gh];unfold kindB at q;refine ⟨_,.inl (SqL.of ha),rfl,?_⟩;rw[aa2];refine bc (λc=>ah ha (bp (k:=0) (by omega)) ⟨rfl,bc (λc1=>ah ha (bp (k:=1) (by omega)) ⟨_,rfl,hz _ (m7 (by omega)),λH1 s1=>?_⟩) λc1=>?_⟩) λc=>?_
 ·have q1:=q H1 s1;rw[decide_eq_true (show ts.length=2 by omega),decide_eq_true (V.str.inj c1),ab0,ab0] at q1;exact q1
 ·have q1:=q H (ao.refl _);rw[decide_eq_false (show ¬ts.getD 0 ""="kind" from λe=>c1 (congrArg V.str e)),aal,aa7] at q1;exact q1
 ·have q1:=q H (ao.refl _);rw[decide_eq_false (show ¬ts.length=2 by omega),aa7,aa7] at q1;exact q1
noncomputable abbrev kg:Stmt:=top 42
theorem Dw:au ["words"] ["words"] (af kg):=⟨rfl,rfl,rfl,by decide+kernel,rfl,by decide+kernel,by decide+kernel⟩
theorem Jc (G:Gs w K mg κ) (h_is_deed:Has P w K mg base k "is_deed" ["words"] oh) (h_is_name:Has P w K mg base k "is_name" ["word"] gh) (D:Def K mg "is_does_row" kg ["words"]):Has P w K mg base (k+1) "is_does_row" ["words"] oa:=by
 refine D.has Dw (λvs H Q E h=>?_) (λf cdv A outer s H vs Q E hr h=>?_)
 ·obtain ⟨_,_,rfl,_,_,_,_⟩:=h;rfl
 have nd:=Dw.nd;have hu:=br hr;have hu0:=aa9 hu;obtain ⟨a,ts,rfl,ha,hz,hl,q⟩:=h;have m_len:=G.m_len;refine ⟨_,(AA (AF (BI (BF (@g8 _) (AM (AU 0) m_len b8 (A1 (A0 0 (by first | exact aa1 rfl | exact aa0 (aa1 rfl) | exact aa0 (aa0 rfl))) (A2 0))) (A6 0) (AE 0)) (BI (BF (AL 0) (AB (AG 0) (A0 0 (by first | exact aa1 rfl | exact aa0 (aa1 rfl) | exact aa0 (aa0 rfl))) (A6 0)) (A7 0) (AE 0)) (BI (AC h_is_name hr (A1 (AB (AG 0) (A0 0 (by first | exact aa1 rfl | exact aa0 (aa1 rfl) | exact aa0 (aa0 rfl))) (A6 0)) (A2 0))) (BJ (AC h_is_deed hr (A1 (AR (AX 0) (A0 0 (by first | exact aa1 rfl | exact aa0 (aa1 rfl) | exact aa0 (aa0 rfl))) (AS (A6 0)) (AT 0)) (A2 0))))))))),?_⟩;rw[show start ["words"] [.ref a]=[some (.ref a)] from rfl];clear hu hu0 nd hr;push_cast [oh,gh];unfold gu at q;refine ⟨_,.inl (SqL.of ha),?_⟩;rw[aa2];refine bc (λc=>ah ha (bp (k:=0) (by omega)) ⟨rfl,bc (λc1=>ah ha (bp (k:=1) (by omega)) ⟨_,rfl,hz _ (m7 (by omega)),λH1 s1=>bc (λc2=>⟨_,SqL.of (s1 _ _ ha),λp hp=>⟨ts.drop 2,?_,λz h=>hz z (ab8 h),by rw[aaf];omega,λH2 s2=>?_⟩⟩) λc2=>?_⟩) λc1=>?_⟩) λc=>?_
 ·rw[show ck (ts.map V.str) (some 2) none=(ts.drop 2).map V.str from cx ts 2];exact aa
 ·have q1:=q H2 (s1.trans ((ae hp _).trans s2));rw[decide_eq_true (show 2 < ts.length by omega),decide_eq_true (V.str.inj c1),c2,ab0,ab0,ab0] at q1;exact q1
 ·have q1:=q H1 s1;rw[Bool.eq_false_iff.mpr c2,aal,aa7] at q1;exact q1
 ·have q1:=q H (ao.refl _);rw[decide_eq_false (show ¬ts.getD 0 ""="does" from λe=>c1 (congrArg V.str e)),aal,aa7,aa7] at q1;exact q1
 ·have q1:=q H (ao.refl _);rw[decide_eq_false (show ¬2 < ts.length by omega),aa7,aa7,aa7] at q1;exact q1
noncomputable abbrev ko:Stmt:=top 41
theorem Dy:au ["words","shape"] ["words"] (af ko):=⟨rfl,rfl,rfl,by decide+kernel,rfl,by decide+kernel,by decide+kernel⟩
theorem Jm (G:Gs w K mg κ) (h_is_name:Has P w K mg base k "is_name" ["word"] gh) (h_is_price:Has P w K mg base k "is_price" ["word"] Dq) (h_is_shape_word:Has P w K mg base k "is_shape_word" ["word"] yt) (D:Def K mg "is_rule_row" ko ["words"]):Has P w K mg base (k+1) "is_rule_row" ["words"] oj:=by
 refine D.has Dy (λvs H Q E h=>?_) (λf cdv A outer s H vs Q E hr h=>?_)
 ·obtain ⟨_,_,rfl,_,_,_,_,_⟩:=h;rfl
 have nd:=Dy.nd;have hu:=br hr;have hu0:=aa9 hu;obtain ⟨a,ts,rfl,ha,hz,hn,hl,q⟩:=h;obtain ⟨_,m_MOST_SHAPE_WORDS⟩:=G.m_MOST_SHAPE_WORDS;obtain ⟨_,m_SHAPE_START⟩:=G.m_SHAPE_START;have m_all:=G.m_all;have m_len:=G.m_len;refine ⟨_,(A9 (AH 1 nd (by first | exact aa1 rfl | exact aa0 rfl) (AR (AX 0) (A0 0 (by first | exact aa1 rfl | exact aa0 (aa1 rfl) | exact aa0 (aa0 rfl))) (AS (BV m_SHAPE_START)) (AT 0)) (by first | exact .inl rfl | exact .inr rfl | assumption)) (A9 (AJ (AW (BB (AI (@ip _) (AM (AU 0) m_len b8 (A1 (A0 1 (by first | exact aa1 rfl | exact aa0 (aa1 rfl) | exact aa0 (aa0 rfl))) (A2 0))) (A6 0) (AE 0)) (BB (AI (@g8 _) (AM (AU 0) m_len b8 (A1 (A0 1 (by first | exact aa1 rfl | exact aa0 (aa1 rfl) | exact aa0 (aa0 rfl))) (A2 0))) (BV m_MOST_SHAPE_WORDS) (AE 0)) (BM (AI (@rf _) (AB (AG 0) (A0 0 (by first | exact aa1 rfl | exact aa0 (aa1 rfl) | exact aa0 (aa0 rfl))) (A6 0)) (A7 0) (AE 0)))))) (AA (AF (BN 0))) (AK 0)) (A9 (AJ (AW (BB (BK (B8 (AC h_is_name hr (A1 (AB (AG 0) (A0 0 (by first | exact aa1 rfl | exact aa0 (aa1 rfl) | exact aa0 (aa0 rfl))) (A6 0)) (A2 0))))) (BB (BK (B8 (AC h_is_name hr (A1 (AB (AG 0) (A0 0 (by first | exact aa1 rfl | exact aa0 (aa1 rfl) | exact aa0 (aa0 rfl))) (A6 0)) (A2 0))))) (BB (BK (B8 (AC h_is_price hr (A1 (AB (AG 0) (A0 0 (by first | exact aa1 rfl | exact aa0 (aa1 rfl) | exact aa0 (aa0 rfl))) (A6 0)) (A2 0))))) (BM (AI (@rf _) (AB (AG 0) (A0 0 (by first | exact aa1 rfl | exact aa0 (aa1 rfl) | exact aa0 (aa0 rfl))) (A6 0)) (A7 0) (AE 0))))))) (AA (AF (BN 0))) (AK 0)) (AA (AF (AM (@gj _ rfl) m_all Hy (A1 (BH (AY ["word"] [] [] trivial trivial) (BC (A0 1 (by first | exact aa1 rfl | exact aa0 (aa1 rfl) | exact aa0 (aa0 rfl)))) (λ_ _ _=>(AZ 0 (show aba (["word"]:List Str) by decide+kernel) (by first | exact .inl rfl | exact .inr rfl | assumption))) (λ_ _ _=>(@lb _)) (λ_ _ _=>(AC h_is_shape_word hr (A1 (A0 0 (by first | exact aa1 rfl | exact aa0 (aa1 rfl) | exact aa0 (aa0 rfl))) (A2 0))))) (A2 0)))))))),?_⟩;rw[show start ["words","shape"] [.ref a]=[some (.ref a),none] from rfl];clear hu hu0 nd hr;push_cast [gh,Dq,yt];have sz:=sizeLine_eq;unfold eg at q;refine ⟨_,SqL.of ha,λp hp=>?_⟩;rw[show ck (ts.map V.str) (some 5) none=(ts.drop 5).map V.str from cx ts 5];have s0:=ae hp (.lst ((ts.drop 5).map V.str));have ha0:=s0 _ _ ha;have hp0:upd H p (.lst ((ts.drop 5).map V.str)) p=some (.lst ((ts.drop 5).map V.str)):=aa;generalize upd H p (.lst ((ts.drop 5).map V.str))=H0 at s0 ha0 hp0 ⊢;have dl:(ts.drop 5).length=ts.length - 5:=aaf;refine ⟨_,.inl (SqL.of hp0),?_⟩;rw[aa2];refine bc (λc=>?_) λc=>⟨_,.inl (SqL.of hp0),?_⟩
 ·have q1:=q H0 s0;rw[decide_eq_false (show ¬1≤(ts.drop 5).length by omega)] at q1;simp only[aa7] at q1;exact q1
 rw[decide_eq_true (show 1≤(ts.drop 5).length by omega),ab0] at q;rw[aa2];refine bc (λc=>?_) λc=>?_
 ·have q1:=q H0 s0;rw[decide_eq_false (show ¬(ts.drop 5).length≤12 by omega)] at q1;simp only[aa7] at q1;exact q1
 rw[decide_eq_true (show (ts.drop 5).length≤12 by omega),ab0] at q;refine ah ha0 (bp (k:=0) (by omega)) ⟨rfl,bc (λc1=>?_) λc1=>ah ha0 (bp (k:=1) (by omega)) ⟨_,rfl,hz _ (m7 (by omega)),λH1 s1=>?_⟩⟩
 ·have q1:=q H0 s0;rw[decide_eq_false (show ¬ts.getD 0 ""="rule" from λe=>by rw[e] at c1;simp at c1)] at q1;simp only[aa7] at q1;exact q1
 rw[decide_eq_true (show ts.getD 0 ""="rule" by simpa using c1),ab0] at q;refine bc (λc2=>?_) λc2=>ah (s1 _ _ ha0) (bp (k:=2) (by omega)) ⟨_,rfl,hz _ (m7 (by omega)),λH2 s2=>?_⟩
 ·have q1:=q H1 (s0.trans s1);rw[show ax (ts.getD 1 "")=false by simpa using c2] at q1;simp only[aa7] at q1;exact q1
 rw[show ax (ts.getD 1 "")=true by simpa using c2,ab0] at q;have S2:=s0.trans (s1.trans s2);refine bc (λc2=>?_) λc2=>ah (S2 _ _ ha) (bp (k:=3) (by omega)) ⟨_,rfl,hz _ (m7 (by omega)),hn,λH3 s3=>?_⟩
 ·have q1:=q H2 S2;rw[show ax (ts.getD 2 "")=false by simpa using c2] at q1;simp only[aa7] at q1;exact q1
 rw[show ax (ts.getD 2 "")=true by simpa using c2,ab0] at q;have S3:=S2.trans s3;refine bc (λc2=>?_) λc2=>ah (S3 _ _ ha) (bp (k:=4) (by omega)) ⟨rfl,bc (λc3=>?_) λc3=>⟨⟨_,SqL.of ((s1.trans (s2.trans s3)) _ _ hp0)⟩,λD hD=>?_⟩⟩
 ·have q1:=q H3 S3;rw[show dh (ts.getD 3 "")=false by simpa using c2] at q1;simp only[aa7] at q1;exact q1
 ·have q1:=q H3 S3;rw[decide_eq_false (show ¬ts.getD 4 ""="=" from λe=>by rw[e] at c3;simp at c3)] at q1;simp only[aa7,aal] at q1;exact q1
 rw[show dh (ts.getD 3 "")=true by simpa using c2,decide_eq_true (show ts.getD 4 ""="=" by simpa using c3),ab0,ab0] at q;have hp3:=(s1.trans (s2.trans s3)) _ _ hp0;refine gy (λi ys=>ys=((ts.drop 5).take i).map λz=>V.bl (shB z)) (SqL.of hp3) (by rw[aa2];omega) hD rfl (λi x ys H4 G' K' hx hP hl2 hS hG hK=>?_) λys H4 hP hl2 hS hD2=>?_
 ·rw[aag] at hx;obtain ⟨z,hx',rfl⟩:=Option.map_eq_some_iff.mp hx;push_cast [yt];refine ⟨hz z (ab8 (aap hx')),λH5 s5=>hK _ _ s5 ?_⟩;rw[hP,aax,hx',aad];rfl
 ·rw[aa2,aat] at hP;refine ⟨(ts.drop 5).map shB,SqL.of (by rw[hD2,hP,abo];rfl),?_⟩;rw[ae1];exact q H4 (S3.trans hS)
noncomputable abbrev g9:Stmt:=top 43
theorem Am:au ["text","rows","number","row"] ["text"] (af g9):=⟨rfl,rfl,rfl,by decide+kernel,rfl,by decide+kernel,by decide+kernel⟩
theorem Ff (G:Gs w K mg κ) (D:Def K mg "rows_in" g9 ["text"]):Has P w K mg base (k+1) "rows_in" ["text"] jm:=by
 refine D.has Am (λvs H Q E h=>?_) (λf cdv A outer s H vs Q E hr h=>?_)
 ·obtain ⟨_,rfl,_,_,_,_⟩:=h;rfl
 have nd:=Am.nd;have hu:=br hr;have hu0:=aa9 hu;obtain ⟨z,rfl,hz,hl,hy,q⟩:=h;have m_enumerate:=G.m_enumerate;refine ⟨_,(A9 (AH 1 nd (by first | exact aa1 rfl | exact aa0 rfl) (AN (A2 0)) (by first | exact .inl rfl | exact .inr rfl | assumption)) (A9 (BX (@Jp _ _ _ _ _ _ _ _ _ _ _ rfl m_enumerate (A1 (AQ PySem.F.plainAttrs_str PySem.F.slot_str_split PySem.F.type_str_split (@p6 _) (A0 0 (by first | exact aa1 rfl | exact aa0 (aa1 rfl) | exact aa0 (aa0 rfl))) (A1 (A7 0) (A2 0))) (A2 0)) (by rfl)) (BY 2 (BE (B6 2 nd (by first | exact aa1 rfl | exact aa0 rfl) (by first | exact .inl rfl | exact .inr rfl | assumption)) (BE (B6 3 nd (by first | exact aa1 rfl | exact aa0 rfl) (by first | exact .inl rfl | exact .inr rfl | assumption)) (@jo _)))) (AA (AJ (AI (@rf _) (A0 3 (by first | exact aa1 rfl | exact aa0 (aa1 rfl) | exact aa0 (aa0 rfl))) (A7 0) (AE 0)) (AA (BG (AQ PySem.F.plainAttrs_list PySem.F.slot_list_append PySem.F.type_list_append (BQ 0) (A0 1 (by first | exact aa1 rfl | exact aa0 (aa1 rfl) | exact aa0 (aa0 rfl))) (A1 (AV (A1 (A0 2 (by first | exact aa1 rfl | exact aa0 (aa1 rfl) | exact aa0 (aa0 rfl))) (A1 (AQ PySem.F.plainAttrs_str PySem.F.slot_str_split PySem.F.type_str_split (@p6 _) (A0 3 (by first | exact aa1 rfl | exact aa0 (aa1 rfl) | exact aa0 (aa0 rfl))) (A1 (A7 0) (A2 0))) (A2 0)))) (A2 0))))) (AK 0)))) (AA (AF (A0 1 (by first | exact aa1 rfl | exact aa0 (aa1 rfl) | exact aa0 (aa0 rfl))))))),?_⟩;rw[show start ["text","rows","number","row"] [.str z]=[some (.str z),none,none,none] from rfl];clear hu hu0 nd hr;push_cast [and_true];have sz:=sizeLine_eq;refine ⟨ab7 _,λl hln=>?_⟩;push_cast [Hn];refine ⟨by decide+kernel,by omega,λp hp=>?_⟩;refine ⟨⟨_,SqL.of aa⟩,?_⟩;have hpl:p≠l:=λe=>by rw[e,aa] at hp;cases hp
 refine Av (xs:=(Txt.split z "\n").map V.str) (λi σ H'=>∃v2 v3,σ=[some (.str z),some (.ref l),v2,v3]∧ao H H'∧H' p=some (.lst ((Txt.split z "\n").map V.str))∧jy H' l (b6 1 ((Txt.split z "\n").take i))) ?_ ?_ ?_ ?_
 ·exact ⟨none,none,rfl,(ae hln _).trans (ae hp _),aa,[],by rw[ai hpl.symm];exact aa,rfl,λi p ts h=>by cases h⟩
 ·rintro i σ H' _ ⟨_,_,_,_,h,_⟩;exact SqL.of h
 ·rintro i x σ H1 t hx ⟨v2,v3,rfl,s1,hp1,ps,r1,r2,r3⟩ ht;rw[aag] at hx;obtain ⟨y,hy1,rfl⟩:=Option.map_eq_some_iff.mp hx;have yl:=hy y (aap hy1);have hi:=(List.getElem?_eq_some_iff.mp hy1).1;have tl:((Txt.split z "\n").take i).length=i:=by rw[aaa];omega
  have pl:ps.length≤1000:=by
   rw[r2];exact aak (ow _ _) (by omega)
  have et:b6 1 ((Txt.split z "\n").take (i+1))=b6 1 ((Txt.split z "\n").take i)++(if y="" then [] else [(i+1,Txt.split y " ")]):=by
   rw[aax,hy1,acj,Fj,tl,ae0 1 i]
  have s2:=ae ht (.tup [.int ((i+1:Nat):Int),.str y]);have ntl:t≠l:=(aq r1 ht).symm;refine gp aa rfl ?_;push_cast [and_true];refine ⟨rfl,?_⟩;by_cases c:y=""
  ·rw[if_neg (by rw[c];simp),et,if_pos c,aaq];exact ⟨s1.trans s2,s2 _ _ hp1,ps,s2 _ _ r1,r2,λj p' ts a b=>(r3 j p' ts a b).same s2⟩
  ·rw[if_pos (by simpa using c),et,if_neg c];refine ⟨fo (s2 _ _ r1),by decide+kernel,by omega,λa ha=>⟨by show (2:Nat)≤sizeLine;decide,λu hu=>?_⟩⟩;have s3:=ae ha (.lst ((Txt.split y (Str.ofString " ")).map V.str));have s4:=ae hu (.tup [.int ((i+1:Nat):Int),.ref a]);have s34:=s2.trans (s3.trans s4);have r1':=s34 _ _ r1;refine (fb (K:=K) r1' (by rw[aa2];omega) ⟨((s1.trans s34).upd hln _),by rw[ai hpl];exact s34 _ _ hp1,ps++[u],by rw[aa,aad];rfl,by rw[aa4,aa4,r2];rfl,?_⟩).2;refine lq (R:=λp' r=>xg (upd _ l (.lst (ps.map V.ref++[V.ref u]))) l p' r) r2 (λj p' ts a b=>((r3 j p' ts a b).same s34).put r1') ?_;exact xg.put ⟨a,(aq (s2 _ _ r1) ha).symm,aa,s4 _ _ aa⟩ r1'
 ·rintro σ H1 ⟨v2,v3,rfl,s1,_,hR⟩;rw[aa2,aat] at hR;push_cast [and_true];exact q l H1 s1 hR
noncomputable abbrev iu:Stmt:=top 44
theorem ym:au ["rows","number","words"] ["rows"] (af iu):=⟨rfl,rfl,rfl,by decide+kernel,rfl,by decide+kernel,by decide+kernel⟩
theorem Gj (G:Gs w K mg κ) (h_is_does_row:Has P w K mg base k "is_does_row" ["words"] oa) (h_is_kind_row:Has P w K mg base k "is_kind_row" ["words"] n6) (h_is_rule_row:Has P w K mg base k "is_rule_row" ["words"] oj) (hi_BadRow:HasI P w K mg base 1 κ.badRow ["self","row"] (lu κ.badRow "row")) (hk2:2≤k) (D:Def K mg "refuse_other_rows" iu ["rows"]):i6 P w K mg base (k+1) "refuse_other_rows" ["rows"] (jj κ):=by
 refine D.hasX ym (λvs H Q E h=>?_) (λf cdv A outer s H vs Q E hr h=>?_)
 ·obtain ⟨_,_,rfl,_,_,_,_⟩:=h;rfl
 have nd:=ym.nd;have hu:=br hr;have hu0:=aa9 hu;obtain ⟨l,nr,rfl,hR,hg,hn,q⟩:=h;have m_BadRow:=G.er.m_badRow;refine ⟨_,(AA (C6 (@mn _ _ qu) (BC (A0 0 (by first | exact aa1 rfl | exact aa0 (aa1 rfl) | exact aa0 (aa0 rfl)))) (BY 2 (BE (B6 1 nd (by first | exact aa1 rfl | exact aa0 rfl) (by first | exact .inl rfl | exact .inr rfl | assumption)) (BE (B6 2 nd (by first | exact aa1 rfl | exact aa0 rfl) (by first | exact .inl rfl | exact .inr rfl | assumption)) (@jo _)))) (AA (AJ (AW (BO (BK (B8 (AC h_is_kind_row hr (A1 (A0 2 (by first | exact aa1 rfl | exact aa0 (aa1 rfl) | exact aa0 (aa0 rfl))) (A2 0))))) (BO (BK (B8 (AC h_is_rule_row hr (A1 (A0 2 (by first | exact aa1 rfl | exact aa0 (aa1 rfl) | exact aa0 (aa0 rfl))) (A2 0))))) (BR (BK (B8 (AC h_is_does_row hr (A1 (A0 2 (by first | exact aa1 rfl | exact aa0 (aa1 rfl) | exact aa0 (aa0 rfl))) (A2 0))))))))) (AA (@ux _ _ _ _ _ _ _ _ _ _ _ _ _ _ G.er.x_badRow hi_BadRow (hr.mono hk2) (by decide) m_BadRow (A1 (A0 1 (by first | exact aa1 rfl | exact aa0 (aa1 rfl) | exact aa0 (aa0 rfl))) (A2 0)) (by rfl) (by decide+kernel) (by rfl) (by rfl))) (AK 0))))),?_⟩;rw[show start ["rows","number","words"] [.ref l]=[some (.ref l),none,none] from rfl];clear hu hu0 nd hr;push_cast [and_true];have sz:=sizeLine_eq;obtain ⟨ps,r1,r2,r3⟩:=hR;refine ⟨⟨_,SqL.of r1⟩,gn (xs:=ps.map V.ref) (λi σ H'=>∃v1 v2,σ=[some (.ref l),v1,v2]∧ao H H'∧∀j r,j < i→nr[j]?=some r→bo r.2=true) ⟨none,none,rfl,ao.refl _,λj r h=>absurd h (acy _)⟩ (λi σ H' _ h=>?_) ?_ ?_⟩
 ·obtain ⟨_,_,_,s,_⟩:=h;exact SqL.of (s _ _ r1)
 ·rintro i x σ H1 hx ⟨v1,v2,rfl,s1,hb⟩;obtain ⟨p,hp,rfl⟩:=d7 hx;have hi:i < nr.length:=by
   rw[←r2];exact (List.getElem?_eq_some_iff.mp hp).1
  have hri:nr[i]?=some nr[i]:=aa5 hi;obtain ⟨a,_,h1,h2⟩:=r3 i p _ hp hri;obtain ⟨tl,ln,no⟩:=hg _ (aaw hi);generalize nr[i]=r at h1 h2 tl ln no hri;have ok:bo r.2=true→∀j r',j < i+1→nr[j]?=some r'→bo r'.2=true:=λh j r' hj hr=>by
   by_cases e:j=i
   ·rw[e,hri] at hr;rw[←aac hr];exact h
   ·exact hb j r' (by omega) hr
  refine gp (s1 _ _ h1) rfl ?_;push_cast [n6,oj,oa];refine ⟨_,s1 _ _ h2,tl,ln,λH2 s2=>bc (λc=>⟨_,(s1.trans s2) _ _ h2,tl,no,ln,λH3 s3=>bc (λc1=>⟨_,(s1.trans (s2.trans s3)) _ _ h2,tl,ln,λH4 s4=>bc (λc2=>?_) λc2=>⟨s1.trans (s2.trans (s3.trans s4)),ok ?_⟩⟩) λc1=>⟨s1.trans (s2.trans s3),ok ?_⟩⟩) λc=>⟨s1.trans s2,ok ?_⟩⟩
  ·have bad:bo r.2=false:=by
    unfold bo;simp only[ac6] at c c1 c2;rw[c,c1,c2];rfl
   refine J3 (v:=.int (r.1:Int)) (λQ h=>h) ?_;rcases q with ⟨hall,_⟩ | ⟨i0,r0,e1,e2,e3,hf⟩
   ·rw[hall r (aap hri)] at bad;cases bad
   ·have ei:i=i0:=by
     rcases ad8 i i0 with h | h | h
     ·rw[e3 i r h hri] at bad;cases bad
     ·exact h
     ·rw[hb i0 r0 h e1] at e2;cases e2
    rw[←ei,hri] at e1;cases aac e1
    exact hf.same (s1.trans (s2.trans (s3.trans s4)))
  ·unfold bo;simp only[ac6,ad9] at c2;rw[c2,ab4]
  ·unfold bo;simp only[ac6,ad9] at c1;rw[c1,ab4,ab3]
  ·unfold bo;simp only[ac6,ad9] at c;rw[c,ab3,ab3]
 ·rintro σ H1 ⟨v1,v2,rfl,s1,hb⟩;rw[aa2,r2] at hb;rcases q with ⟨_,q⟩ | ⟨i0,r0,e1,e2,e3,hf⟩
  ·exact q H1 s1
  ·rw[hb i0 r0 (List.getElem?_eq_some_iff.mp e1).1 e1] at e2;cases e2
noncomputable abbrev ir:Stmt:=top 45
theorem zk:au ["words"] ["words"] (af ir):=⟨rfl,rfl,rfl,by decide+kernel,rfl,by decide+kernel,by decide+kernel⟩
theorem G9 (G:Gs w K mg κ) (h_number_or_text:Has P w K mg base k "number_or_text" ["word"] qd) (D:Def K mg "read_words" ir ["words"]):Has P w K mg base (k+1) "read_words" ["words"] fq:=by
 refine D.has zk (λvs H Q E h=>?_) (λf cdv A outer s H vs Q E hr h=>?_)
 ·obtain ⟨_,_,rfl,_,_,_,_⟩:=h;rfl
 have nd:=zk.nd;have hu:=br hr;have hu0:=aa9 hu;obtain ⟨a,ws,rfl,ha,hw,hl,q⟩:=h;have m_tuple:=G.m_tuple;refine ⟨_,(AA (AF (B5 (C2 0) m_tuple mf (A1 (BH (AY ["word"] [] [] trivial trivial) (BC (A0 0 (by first | exact aa1 rfl | exact aa0 (aa1 rfl) | exact aa0 (aa0 rfl)))) (λ_ _ _=>(AZ 0 (show aba (["word"]:List Str) by decide+kernel) (by first | exact .inl rfl | exact .inr rfl | assumption))) (λ_ _ _=>(@lb _)) (λ_ _ _=>(AC h_number_or_text hr (A1 (A0 0 (by first | exact aa1 rfl | exact aa0 (aa1 rfl) | exact aa0 (aa0 rfl))) (A2 0))))) (A2 0))))),?_⟩;rw[show start ["words"] [.ref a]=[some (.ref a)] from rfl];clear hu hu0 nd hr;push_cast [qd];have sz:=sizeLine_eq;refine ⟨⟨_,SqL.of ha⟩,λD hD=>gy (λi ys=>ys=ws.take i) (SqL.of ha) (by rw[aa2,aa2];omega) hD rfl (λi x ys H1 G' K' hx hP hl2 hS hG hK=>?_) λys H1 hP hl2 hS hD2=>⟨ys,.inl ⟨SqL.of hD2,λt ht=>?_⟩⟩⟩
 ·rw[abo,aag] at hx;obtain ⟨v,hv,rfl⟩:=Option.map_eq_some_iff.mp hx;push_cast [qd];refine ⟨v,rfl,hw v (aap hv),λH2 s2=>hK _ _ s2 ?_⟩;rw[hP,aax,hv];rfl
 ·rw[aa2,aa2,aat] at hP;subst hP;exact q t _ (hS.upd (hS.free ht) _) (hS.free ht) aa
noncomputable abbrev fw:Stmt:=top 46
theorem uf:au ["rows","deeds","number","words"] ["rows"] (af fw):=⟨rfl,rfl,rfl,by decide+kernel,rfl,by decide+kernel,by decide+kernel⟩
theorem Bg (G:Gs w K mg κ) (h_read_words:Has P w K mg base k "read_words" ["words"] fq) (hi_BadRow:HasI P w K mg base 1 κ.badRow ["self","row"] (lu κ.badRow "row")) (hk2:2≤k) (D:Def K mg "deeds_by_rule" fw ["rows"]):i6 P w K mg base (k+1) "deeds_by_rule" ["rows"] (ly κ):=by
 refine D.hasX uf (λvs H Q E h=>?_) (λf cdv A outer s H vs Q E hr h=>?_)
 ·obtain ⟨_,_,_,rfl,_,_,_,_⟩:=h;rfl
 have nd:=uf.nd;have hu:=br hr;have hu0:=aa9 hu;obtain ⟨l,nr,rs,rfl,hRN,eN,hg,q⟩:=h;have m_BadRow:=G.er.m_badRow;refine ⟨_,(A9 (AH 1 nd (by first | exact aa1 rfl | exact aa0 rfl) (@zq _ _) (by first | exact .inl rfl | exact .inr rfl | assumption)) (A9 (C6 (@mn _ _ qu) (BC (A0 0 (by first | exact aa1 rfl | exact aa0 (aa1 rfl) | exact aa0 (aa0 rfl)))) (BY 2 (BE (B6 2 nd (by first | exact aa1 rfl | exact aa0 rfl) (by first | exact .inl rfl | exact .inr rfl | assumption)) (BE (B6 3 nd (by first | exact aa1 rfl | exact aa0 rfl) (by first | exact .inl rfl | exact .inr rfl | assumption)) (@jo _)))) (AA (AJ (AI (AL 0) (AB (AG 0) (A0 3 (by first | exact aa1 rfl | exact aa0 (aa1 rfl) | exact aa0 (aa0 rfl))) (A6 0)) (A7 0) (AE 0)) (AA (CC hu (A0 1 (by first | exact aa1 rfl | exact aa0 (aa1 rfl) | exact aa0 (aa0 rfl))) (AB (AG 0) (A0 3 (by first | exact aa1 rfl | exact aa0 (aa1 rfl) | exact aa0 (aa0 rfl))) (A6 0)) (AN (A2 0)))) (AK 0)))) (A9 (C6 (@mn _ _ qu) (BC (A0 0 (by first | exact aa1 rfl | exact aa0 (aa1 rfl) | exact aa0 (aa0 rfl)))) (BY 2 (BE (B6 2 nd (by first | exact aa1 rfl | exact aa0 rfl) (by first | exact .inl rfl | exact .inr rfl | assumption)) (BE (B6 3 nd (by first | exact aa1 rfl | exact aa0 rfl) (by first | exact .inl rfl | exact .inr rfl | assumption)) (@jo _)))) (AA (AJ (AI (AL 0) (AB (AG 0) (A0 3 (by first | exact aa1 rfl | exact aa0 (aa1 rfl) | exact aa0 (aa0 rfl))) (A6 0)) (A7 0) (AE 0)) (A9 (AJ (@Lb _ _ _ _ _ _ (@Gd _ _ _ _ _ hu (AB (AG 0) (A0 3 (by first | exact aa1 rfl | exact aa0 (aa1 rfl) | exact aa0 (aa0 rfl))) (A6 0)) (A0 1 (by first | exact aa1 rfl | exact aa0 (aa1 rfl) | exact aa0 (aa0 rfl)))) (by first | exact nobehind _ (by decide) (by decide) | rfl)) (AA (@ux _ _ _ _ _ _ _ _ _ _ _ _ _ _ G.er.x_badRow hi_BadRow (hr.mono hk2) (by decide) m_BadRow (A1 (A0 2 (by first | exact aa1 rfl | exact aa0 (aa1 rfl) | exact aa0 (aa0 rfl))) (A2 0)) (by rfl) (by decide+kernel) (by rfl) (by rfl))) (AK 0)) (AA (BG (AQ PySem.F.plainAttrs_list PySem.F.slot_list_append PySem.F.type_list_append (BQ 0) (C3 hu (A0 1 (by first | exact aa1 rfl | exact aa0 (aa1 rfl) | exact aa0 (aa0 rfl))) (AB (AG 0) (A0 3 (by first | exact aa1 rfl | exact aa0 (aa1 rfl) | exact aa0 (aa0 rfl))) (A6 0))) (A1 (AC h_read_words hr (A1 (AR (AX 0) (A0 3 (by first | exact aa1 rfl | exact aa0 (aa1 rfl) | exact aa0 (aa0 rfl))) (AS (A6 0)) (AT 0)) (A2 0))) (A2 0)))))) (AK 0)))) (AA (AF (A0 1 (by first | exact aa1 rfl | exact aa0 (aa1 rfl) | exact aa0 (aa0 rfl)))))))),?_⟩;rw[show start ["rows","deeds","number","words"] [.ref l]=[some (.ref l),none,none,none] from rfl];clear hu hu0 nd hr;push_cast [and_true];have sz:=sizeLine_eq;obtain ⟨ps,r1,r2N,r3N⟩:=hRN;have hR:=jy.at ⟨ps,r1,r2N,r3N⟩;rw[eN] at hR;have r2:ps.length=(txs rs).length:=by rw[←eN,aa2];exact r2N
 have r3:∀(i:Nat) (p:Addr) (ts:List Str),ps[i]?=some p→(txs rs)[i]?=some ts→RowAt H l p ts:=λi p ts hp ht=>by
  rw[←eN,aag] at ht;obtain ⟨r,hr,rfl⟩:=Option.map_eq_some_iff.mp ht;obtain ⟨a,ne,g1,g2⟩:=r3N i p r hp hr;exact ⟨_,a,ne,g1,g2⟩
 have rl:=hg.2;refine λd hdn=>⟨⟨_,SqL.of (ae hdn _ _ _ r1)⟩,gn (xs:=ps.map V.ref) (λi σ H'=>∃v2 v3,σ=[some (.ref l),some (.ref d),v2,v3]∧ao H H'∧DA (λa=>H a=acp) H' d i (λz=>if z∈aj (rs.take i) then some [] else none)) ⟨none,none,rfl,ae hdn _,DA.new.ext (λz=>rfl) (aa3 _)⟩ (λi σ H' _ h=>?_) ?_ ?_⟩
 ·obtain ⟨_,_,_,s,_⟩:=h;exact SqL.of (s _ _ r1)
 ·rintro i x σ H1 hx ⟨v2,v3,rfl,s1,hA⟩;obtain ⟨p,hp,rfl⟩:=d7 hx;have hi:i < rs.length:=by
   have:=(List.getElem?_eq_some_iff.mp hp).1;rw[r2] at this;unfold txs at this;rwa [aa2] at this
  have hri:rs[i]?=some rs[i]:=aa5 hi;have et:rs.take (i+1)=rs.take i++[rs[i]]:=by rw[aax,hri];rfl
  obtain ⟨n,a,_,h1,h2⟩:=r3 i p _ hp (by unfold txs;rw[aag,hri];rfl);obtain ⟨ok,fu⟩:=hg.1 _ (aaw hi);have hm:=aaw hi;generalize rs[i]=r at h2 ok fu et hm;have g1:H1 p=some (.tup [.int n,.ref a]):=s1 _ _ h1;have g2:H1 a=some (.lst ((r.tx.map ag).map V.str)):=s1 _ _ h2;refine gp g1 rfl ?_;push_cast [and_true];have l1:0 < (r.tx.map ag).length:=by rw[aa2];exact (Rw.txl ok).1
  refine ah g2 (bp (k:=0) l1) ⟨rfl,?_⟩;cases r with
  | kind m=>
   rw[et,o9];exact ifN (show ¬V.str ("kind":Str)=V.str "rule" by decide+kernel) ⟨s1,hA.ext (λz=>rfl) (ac2 _)⟩
  | does m d'=>
   rw[et,qr];exact ifN (show ¬V.str ("does":Str)=V.str "rule" by decide+kernel) ⟨s1,hA.ext (λz=>rfl) (ac2 _)⟩
  | rule m k' p' ws=>
   rw[et,qz];refine ifY (show V.str ("rule":Str)=V.str "rule" from rfl) ⟨ab7 _,λa' ha'=>ah (ae ha' _ _ _ g2) (bp (k:=1) (by show 1 < (ws.map ag).length+5;omega)) ?_⟩;obtain ⟨kvs,k1,k2,k3⟩:=hA.put ha' (s1.free ha') m;refine ⟨_,zf.k (k:=Sum.inr m) k1 (by omega),?_,k3.ext (λz=>?_) (aa3 _)⟩
   ·exact (s1.trans (ae ha' _)).upd hdn _
   ·by_cases c:z=m
    ·rw[if_pos c,if_pos (by rw[c];exact aai _ aa6)]
    ·rw[if_neg c];by_cases c2:z∈aj (rs.take i)
     ·rw[if_pos c2,if_pos (abl _ c2)]
     ·rw[if_neg c2,if_neg (λh=>(List.mem_append.mp h).elim c2 λh=>c (List.mem_singleton.mp h))]
  | none=>cases fu
 ·rintro σ H1 ⟨v2,v3,rfl,s1,hA⟩;rw[aa2,r2,show (txs rs).length=rs.length from aa2 _,aat] at hA;push_cast [and_true];refine ⟨⟨_,SqL.of (s1 _ _ r1)⟩,gn (xs:=ps.map V.ref) (λi σ H'=>∃v2 v3,σ=[some (.ref l),some (.ref d),v2,v3]∧ao H H'∧DA (λa=>H a=acp) H' d 100 (λz=>if z∈aj rs then some (b5 (rs.take i) z) else none)∧∀j m e,j < i→rs[j]?=some (Rw.does m e)→m∈aj rs) ⟨v2,v3,rfl,s1,hA.ext (λz=>rfl) rl,λj m e h=>absurd h (acy _)⟩ (λi σ H' _ h=>?_) ?_ ?_⟩
  ·obtain ⟨_,_,_,s,_⟩:=h;exact SqL.of (s _ _ r1)
  ·clear hA s1 H1 v2 v3;rintro i x σ H1 hx ⟨v2,v3,rfl,s1,hA,hb⟩;obtain ⟨p,hp,rfl⟩:=d7 hx;have hi:i < rs.length:=by
    have:=(List.getElem?_eq_some_iff.mp hp).1;rw[r2] at this;unfold txs at this;rwa [aa2] at this
   have hri:rs[i]?=some rs[i]:=aa5 hi;have et:rs.take (i+1)=rs.take i++[rs[i]]:=by rw[aax,hri];rfl
   obtain ⟨n,a,_,h1,h2⟩:=r3 i p _ hp (by unfold txs;rw[aag,hri];rfl);obtain ⟨ok,fu⟩:=hg.1 _ (aaw hi);have hm:=aaw hi;generalize rs[i]=r at h2 ok fu et hm hri;have g1:H1 p=some (.tup [.int n,.ref a]):=s1 _ _ h1;have g2:H1 a=some (.lst ((r.tx.map ag).map V.str)):=s1 _ _ h2;refine gp g1 rfl ?_;push_cast [fq];have l1:0 < (r.tx.map ag).length:=by rw[aa2];exact (Rw.txl ok).1
   have nxt:(∀m e,r=Rw.does m e→m∈aj rs)→∀j m e,j < i+1→rs[j]?=some (Rw.does m e)→m∈aj rs:=λh j m e hj hr=>by
    by_cases c:j=i
    ·rw[c,hri] at hr;exact h m e (aac hr)
    ·exact hb j m e (by omega) hr
   refine ah g2 (bp (k:=0) l1) ⟨rfl,?_⟩;cases r with
   | kind m=>
    rw[et];exact ifN (show ¬V.str ("kind":Str)=V.str "does" by decide+kernel) ⟨s1,hA.ext (λz=>by rw[Cq]) (aa3 _),nxt λm e h=>by cases h⟩
   | rule m k' p' ws=>
    rw[et];exact ifN (show ¬V.str ("rule":Str)=V.str "does" by decide+kernel) ⟨s1,hA.ext (λz=>by rw[As]) (aa3 _),nxt λm e h=>by cases h⟩
   | does m d'=>
    have dl:=dw ok.2;by_cases hmr:m∈aj rs
    rotate_left
    ·have l2:1 < ((Rw.does m d').tx.map ag).length:=by show 1 < (d'.map ag).length+2;omega
     obtain ⟨kvs,k1,k2⟩:=hA.none (z:=m) (by show (if m∈aj rs then _ else _)=_;rw[if_neg hmr]);have gd:=jw.k (k:=Sum.inr m) k1;rw[k2] at gd;rw[et];refine ifY (show V.str ("does":Str)=V.str "does" from rfl) (ah g2 (bp (k:=1) l2) ⟨_,gd,?_⟩);rw[if_pos (by simp)];obtain ⟨rN,hrN⟩:∃rN,nr[i]?=some rN:=⟨_,aa5 (by rw[←r2N];exact (List.getElem?_eq_some_iff.mp hp).1)⟩;obtain ⟨aN,_,g1N,_⟩:=r3N i p rN hp hrN;have en:n=(rN.1:Int):=by
      have:=(s1 _ _ g1N).symm.trans g1;injection this with this
      injection this with this
      injection this with this _
      injection this with this
      exact this.symm
     refine J3 (v:=.int n) (λQ h=>h) ?_;rw[en];rcases q with ⟨hd,_⟩ | ⟨i0,r0,e1,⟨⟨n0,d0,e2,e3⟩,e4⟩,hf⟩
     ·exact absurd (hd m d' hm) hmr
     ·have ei:i=i0:=by
       rcases ad8 i i0 with h | h | h
       ·exact absurd (e4 i m d' h hri) hmr
       ·exact h
       ·exact absurd (hb i0 n0 d0 h e2) e3
      rw[←ei,hrN] at e1;cases aac e1
      exact hf.same s1
    have l2:1 < ((Rw.does m d').tx.map ag).length:=by show 1 < (d'.map ag).length+2;omega
    obtain ⟨kvs,b,bs,k0,k1,k2,k3,k4,k5,_⟩:=hA.get (z:=m) (by rw[if_pos hmr]);rw[et];refine ifY (show V.str ("does":Str)=V.str "does" from rfl) ?_;have gd:jw H1 d (.str m) (some (.ref b)):=by
     have:=jw.k (k:=Sum.inr m) k1;rw[k2] at this;exact this
    refine ah g2 (bp (k:=1) l2) ⟨_,gd,?_⟩;rw[if_neg (by simp)];refine ah g2 (bp (k:=1) l2) ⟨_,gd,⟨fo k3,?_⟩⟩;refine ⟨_,SqL.of g2,λc hc=>⟨d',?_,n8 ok.2,by omega,λt H3 s3 hf ht=>?_⟩⟩
    ·rw[show ck (((Rw.does m d').tx.map ag).map V.str) (some 2) none=(d'.map ag).map V.str from cx _ 2];exact aa
    have s4:=(ae hc _).trans s3;have A3:=hA.same s4;obtain ⟨kvs',b',bs',_,e1,e2,e3,e4,e5,_⟩:=A3.get (z:=m) (by rw[if_pos hmr]);have ek:kvs'=kvs:=by
     have:=e1.symm.trans (s4 _ _ k1);injection (aac this)
    subst ek;obtain rfl:b'=b:=by
     have:=e2.symm.trans k2;injection (aac this)
    have A4:=e5 t d' ht;refine ⟨b',_,_,rfl,rfl,e3,?_,(s1.trans s4).upd k0 _,A4.ext (λz=>?_) (aa3 _),nxt λm' e h=>by cases h;exact hmr⟩
    ·rw[aa2,e4.1];have:=Fh (rs.take i) m;rw[aaa] at this;omega
    ·rw[Cm];by_cases c:z=m
     ·rw[if_pos c,c,if_pos hmr,if_pos rfl]
     ·rw[if_neg c,if_neg (show ¬m=z from λe=>c e.symm)]
   | none=>cases fu
  ·rintro σ H2 ⟨v2,v3,rfl,s2,hA2,hb⟩;rw[aa2,r2,show (txs rs).length=rs.length from aa2 _,aat] at hA2;push_cast [and_true];rcases q with ⟨_,q⟩ | ⟨i0,r0,e1,⟨⟨n0,d0,e2,e3⟩,e4⟩,hf⟩
   ·exact q d H2 s2 hdn hA2
   ·exact absurd (hb i0 n0 d0 (by rw[aa2,r2,show (txs rs).length=rs.length from aa2 _];exact (List.getElem?_eq_some_iff.mp e2).1) e2) e3
noncomputable abbrev ij:Stmt:=top 47
theorem zx:au ["text","rows","deeds","kinds","rules","number","words","own"] ["text"] (af ij):=⟨rfl,rfl,rfl,by decide+kernel,rfl,by decide+kernel,by decide+kernel⟩
theorem Gb (G:Gs w K mg κ) (h_deeds_by_rule:i6 P w K mg base k "deeds_by_rule" ["rows"] (ly κ)) (h_read_words:Has P w K mg base k "read_words" ["words"] fq) (h_refuse_other_rows:i6 P w K mg base k "refuse_other_rows" ["rows"] (jj κ)) (h_rows_in:Has P w K mg base k "rows_in" ["text"] jm) (D:Def K mg "read_book" ij ["text"]):i6 P w K mg base (k+1) "read_book" ["text"] (oi κ):=by
 refine D.hasX zx (λvs H Q E h=>?_) (λf cdv A outer s H vs Q E hr h=>?_)
 ·obtain ⟨_,rfl,_,_,_,_,_⟩:=h;rfl
 have nd:=zx.nd;have hu:=br hr;have hu0:=aa9 hu;obtain ⟨z,rfl,hz,hl,hy,hG,q⟩:=h;obtain ⟨_,m_SHAPE_START⟩:=G.m_SHAPE_START;have m_int:=G.m_int;have m_tuple:=G.m_tuple;refine ⟨_,(A9 (AH 1 nd (by first | exact aa1 rfl | exact aa0 rfl) (AC h_rows_in hr (A1 (A0 0 (by first | exact aa1 rfl | exact aa0 (aa1 rfl) | exact aa0 (aa0 rfl))) (A2 0))) (by first | exact .inl rfl | exact .inr rfl | assumption)) (A9 (BG (@E2 _ _ _ _ _ _ _ _ _ _ _ h_refuse_other_rows hr (A1 (A0 1 (by first | exact aa1 rfl | exact aa0 (aa1 rfl) | exact aa0 (aa0 rfl))) (A2 0)) (by rfl) (by decide+kernel) (by rfl) (by rfl))) (A9 (AH 2 nd (by first | exact aa1 rfl | exact aa0 rfl) (@E2 _ _ _ _ _ _ _ _ _ _ _ h_deeds_by_rule hr (A1 (A0 1 (by first | exact aa1 rfl | exact aa0 (aa1 rfl) | exact aa0 (aa0 rfl))) (A2 0)) (by rfl) (by decide+kernel) (by rfl) (by rfl)) (by first | exact .inl rfl | exact .inr rfl | assumption)) (A9 (AH 3 nd (by first | exact aa1 rfl | exact aa0 rfl) (AN (A2 0)) (by first | exact .inl rfl | exact .inr rfl | assumption)) (A9 (AH 4 nd (by first | exact aa1 rfl | exact aa0 rfl) (AN (A2 0)) (by first | exact .inl rfl | exact .inr rfl | assumption)) (A9 (C6 (@mn _ _ qu) (BC (A0 1 (by first | exact aa1 rfl | exact aa0 (aa1 rfl) | exact aa0 (aa0 rfl)))) (BY 2 (BE (B6 5 nd (by first | exact aa1 rfl | exact aa0 rfl) (by first | exact .inl rfl | exact .inr rfl | assumption)) (BE (B6 6 nd (by first | exact aa1 rfl | exact aa0 rfl) (by first | exact .inl rfl | exact .inr rfl | assumption)) (@jo _)))) (BD (AJ (AI (AL 0) (AB (AG 0) (A0 6 (by first | exact aa1 rfl | exact aa0 (aa1 rfl) | exact aa0 (aa0 rfl))) (A6 0)) (A7 0) (AE 0)) (AA (BG (AQ PySem.F.plainAttrs_list PySem.F.slot_list_append PySem.F.type_list_append (BQ 0) (A0 3 (by first | exact aa1 rfl | exact aa0 (aa1 rfl) | exact aa0 (aa0 rfl))) (A1 (AB (AG 0) (A0 6 (by first | exact aa1 rfl | exact aa0 (aa1 rfl) | exact aa0 (aa0 rfl))) (A6 0)) (A2 0))))) (AK 0)) (AA (AJ (AI (AL 0) (AB (AG 0) (A0 6 (by first | exact aa1 rfl | exact aa0 (aa1 rfl) | exact aa0 (aa0 rfl))) (A6 0)) (A7 0) (AE 0)) (A9 (AH 7 nd (by first | exact aa1 rfl | exact aa0 rfl) (B5 (C2 0) m_tuple mf (A1 (@Jy _ _ _ _ _ _ _ _ _ (A0 2 (by first | exact aa1 rfl | exact aa0 (aa1 rfl) | exact aa0 (aa0 rfl))) (AB (AG 0) (A0 6 (by first | exact aa1 rfl | exact aa0 (aa1 rfl) | exact aa0 (aa0 rfl))) (A6 0)) (AN (A2 0)) (@M2.mk _ _ _ _ _ _ _ rfl rfl rfl rfl)) (A2 0))) (by first | exact .inl rfl | exact .inr rfl | assumption)) (AA (BG (AQ PySem.F.plainAttrs_list PySem.F.slot_list_append PySem.F.type_list_append (BQ 0) (A0 4 (by first | exact aa1 rfl | exact aa0 (aa1 rfl) | exact aa0 (aa0 rfl))) (A1 (AV (A1 (AB (AG 0) (A0 6 (by first | exact aa1 rfl | exact aa0 (aa1 rfl) | exact aa0 (aa0 rfl))) (A6 0)) (A1 (AB (AG 0) (A0 6 (by first | exact aa1 rfl | exact aa0 (aa1 rfl) | exact aa0 (aa0 rfl))) (A6 0)) (A1 (B5 (@eo _) m_int uc (A1 (AB (AG 0) (A0 6 (by first | exact aa1 rfl | exact aa0 (aa1 rfl) | exact aa0 (aa0 rfl))) (A6 0)) (A2 0))) (A1 (AC h_read_words hr (A1 (AR (AX 0) (A0 6 (by first | exact aa1 rfl | exact aa0 (aa1 rfl) | exact aa0 (aa0 rfl))) (AS (BV m_SHAPE_START)) (AT 0)) (A2 0))) (A1 (A0 7 (by first | exact aa1 rfl | exact aa0 (aa1 rfl) | exact aa0 (aa0 rfl))) (A2 0))))))) (A2 0)))))) (AK 0))))) (AA (AF (AV (A1 (B5 (C2 0) m_tuple mf (A1 (A0 3 (by first | exact aa1 rfl | exact aa0 (aa1 rfl) | exact aa0 (aa0 rfl))) (A2 0))) (A1 (B5 (C2 0) m_tuple mf (A1 (A0 4 (by first | exact aa1 rfl | exact aa0 (aa1 rfl) | exact aa0 (aa0 rfl))) (A2 0))) (A2 0)))))))))))),?_⟩;rw[show start ["text","rows","deeds","kinds","rules","number","words","own"] [.str z]=[some (.str z),none,none,none,none,none,none,none] from rfl];clear hu hu0 nd hr;push_cast [ly,fq,jj,jm];have sz:=sizeLine_eq;have nl:(b6 1 (Txt.split z "
")).length≤1000:=aak (ow _ _) hl
 refine ⟨hz,hl,hy,λl B1 b1 hR=>?_⟩;rcases q with ⟨rs,eN,hg,q⟩ | ⟨i,r,e1,e2,e3,hf⟩
 rotate_left
 ·exact ⟨_,hR,hG,nl,.inr ⟨i,r,e1,e2,e3,hf.same b1⟩⟩
 have allg:∀r∈b6 1 (Txt.split z "
"),bo r.2=true:=λr hr=>Fu hg (by rw[←eN];exact List.mem_map.mpr ⟨r,hr,rfl⟩)
 refine ⟨_,hR,hG,nl,.inl ⟨allg,λB2 b2=>?_⟩⟩;rcases q with ⟨hd,q⟩ | ⟨i,r,e1,e2,hf⟩
 rotate_left
 ·exact ⟨_,hR.same b2,rs,eN,hg,.inr ⟨i,r,e1,e2,hf.same (b1.trans b2)⟩⟩
 refine ⟨_,hR.same b2,rs,eN,hg,.inl ⟨hd,λd H3 s3 hdn hA=>⟨ab7 _,λkl hkl=>⟨ab7 _,λul hul=>?_⟩⟩⟩⟩;have rl:=hg.2;have hR2:Io B2 l (txs rs):=by
  have:=(hR.same b2).at;rw[eN] at this;exact this
 obtain ⟨ps,r1,r2,r3⟩:=hR2;have s4:=ae hkl (.lst []);have s5:=ae hul (.lst []);have A5:=(((hA.away hkl).same s4).away hul).same s5;have kd:d≠kl:=by obtain ⟨kvs,h1,_⟩:=hA;exact aq h1 hkl
 have ud:d≠ul:=by obtain ⟨kvs,h1,_⟩:=hA;exact aq (s4 _ _ h1) hul
 have uk:kl≠ul:=aq aa hul;have Bkl:B2 kl=none:=s3.free hkl;have Bu:B2 ul=none:=(s3.trans s4).free hul;have S5:=s3.trans (s4.trans s5);obtain ⟨P1,eP1⟩:∃P1:Nat→L2.St→Hp→Prop,∀i σ H',P1 i σ H'↔∃v5 v6 v7 ra,σ=[some (.str z),some (.ref l),some (.ref d),some (.ref kl),some (.ref ul),v5,v6,v7]∧ao B2 H'∧DA (λa=>(B2 a=none∧a≠kl)∧a≠ul) H' d 100 (λy=>if y∈aj rs∧y∉aj (rs.take i) then some (b5 rs y) else none)∧H' kl=some (.lst ((dk (rs.take i)).map V.str))∧H' ul=some (.lst (ra.map V.ref))∧cn H' ra (de rs [] (rs.take i)):=⟨_,λ_ _ _=>acu⟩;refine ⟨⟨_,SqL.of (S5 _ _ r1)⟩,gn (xs:=ps.map V.ref) P1 ((eP1 _ _ _).mpr ⟨none,none,none,[],rfl,S5,A5.ext (λy=>?_) (aa3 _),s5 _ _ aa,aa,cn.nil _⟩) (λi σ H' _ h=>?_) ?_ ?_⟩
 ·by_cases c:y∈aj rs
  ·rw[if_pos c,if_pos ⟨c,λh=>by cases h⟩]
  ·rw[if_neg c,if_neg λh=>c h.1]
 ·obtain ⟨_,_,_,_,_,s,_⟩:=(eP1 _ _ _).mp h;exact SqL.of (s _ _ r1)
 ·clear S5 A5 s5 s4 hkl hul s3 hA H3;rintro i x σ H1 hx hh;obtain ⟨v5,v6,v7,ra,rfl,s1,hA,hk,hu1,hr⟩:=(eP1 _ _ _).mp hh;clear hh;obtain ⟨p,hp,rfl⟩:=d7 hx;have hi:i < rs.length:=by
   have:=(List.getElem?_eq_some_iff.mp hp).1;rw[r2] at this;unfold txs at this;rwa [aa2] at this
  have hri:rs[i]?=some rs[i]:=aa5 hi;have et:rs.take (i+1)=rs.take i++[rs[i]]:=by rw[aax,hri];rfl
  obtain ⟨n,a,_,h1,h2⟩:=r3 i p _ hp (by unfold txs;rw[aag,hri];rfl);obtain ⟨ok,fu⟩:=hg.1 _ (aaw hi);have hm:=aaw hi;generalize rs[i]=r at h2 ok fu et hm;have g1:H1 p=some (.tup [.int n,.ref a]):=s1 _ _ h1;have g2:H1 a=some (.lst ((r.tx.map ag).map V.str)):=s1 _ _ h2;have l1:0 < (r.tx.map ag).length:=by rw[aa2];exact (Rw.txl ok).1
  have rle:=fm (all:=rs) (q:=rs.take i) (s:=[]);have kle:(dk (rs.take i)).length≤(rs.take i).length:=aci _ _;have tle:(rs.take i).length≤rs.length:=by rw[aaa];omega
  obtain ⟨M,eM⟩:∃M:L2.St→Hp→Prop,∀σ H',M σ H'↔σ=[some (.str z),some (.ref l),some (.ref d),some (.ref kl),some (.ref ul),some (.int n),some (.ref a),v7]∧ao B2 H'∧DA (λa=>(B2 a=none∧a≠kl)∧a≠ul) H' d 100 (λy=>if y∈aj rs∧y∉aj (rs.take i) then some (b5 rs y) else none)∧H' kl=some (.lst ((dk (rs.take (i+1))).map V.str))∧H' ul=some (.lst (ra.map V.ref))∧cn H' ra (de rs [] (rs.take i)):=⟨_,λ_ _=>acu⟩;refine gp g1 rfl (cf M ?_ ?_)
  ·push_cast [and_true];refine ah g2 (bp (k:=0) l1) ⟨rfl,?_⟩;cases r with
   | kind m=>
    refine ifY (show V.str ("kind":Str)=V.str "kind" from rfl) ⟨fo hk,ah g2 (bp (k:=1) (by show 1 < (2:Nat);decide)) (fb (K:=K) hk (by rw[aa2];omega) ((eM _ _).mpr ⟨rfl,s1.upd Bkl _,hA.upd (λa h=>h.1.2) kd (λxs e=>by rw[hk] at e;cases e) _,?_,by rw[ai uk.symm];exact hu1,hr.keep (Tk.upd (Tk.refl _) λxs e=>by rw[hk] at e;cases e)⟩)).2⟩;rw[aa,et,Bf,aad];rfl
   | rule m k' p' ws=>exact ifN (show ¬V.str ("rule":Str)=V.str "kind" by decide+kernel) ((eM _ _).mpr ⟨rfl,s1,hA,by rw[et,Cg];exact hk,hu1,hr⟩)
   | does m d'=>exact ifN (show ¬V.str ("does":Str)=V.str "kind" by decide+kernel) ((eM _ _).mpr ⟨rfl,s1,hA,by rw[et,Bh];exact hk,hu1,hr⟩)
   | none=>cases fu
  ·clear hk hu1 hr hA g1 g2 s1 hx;rintro σ H2 hh;obtain ⟨rfl,s1,hA,hk,hu1,hr⟩:=(eM _ _).mp hh;clear hh;have g2:H2 a=some (.lst ((r.tx.map ag).map V.str)):=s1 _ _ h2;push_cast [fq];refine ah g2 (bp (k:=0) l1) ⟨rfl,?_⟩;rw[et] at hk;cases r with
   | kind m=>
    refine ifN (show ¬V.str ("kind":Str)=V.str "rule" by decide+kernel) ((eP1 _ _ _).mpr ⟨_,_,_,ra,rfl,s1,hA.ext (λy=>by rw[et,o9]) (aa3 _),by rw[et];exact hk,hu1,?_⟩);rw[et,cu,show de rs ([]++aj (rs.take i)) [Rw.kind m]=[] from rfl,aaq];exact hr
   | does m d'=>
    refine ifN (show ¬V.str ("does":Str)=V.str "rule" by decide+kernel) ((eP1 _ _ _).mpr ⟨_,_,_,ra,rfl,s1,hA.ext (λy=>by rw[et,qr]) (aa3 _),by rw[et];exact hk,hu1,?_⟩);rw[et,cu,show de rs ([]++aj (rs.take i)) [Rw.does m d']=[] from rfl,aaq];exact hr
   | none=>cases fu
   | rule m k' p' ws=>
    obtain ⟨o1,o2,o3,o4,o5,o6,o7⟩:=ok;have tl0:((Rw.rule m k' p' ws).tx.map ag).length=ws.length+5:=by rw[aa2];rfl
    have hmr:m∈aj rs:=List.mem_filterMap.mpr ⟨_,hm,rfl⟩;have pn:p'.natAbs < 10 ^ 60:=ab1 (show p'.natAbs≤999999 by omega) (by decide+kernel);obtain ⟨kvs,hkv⟩:∃kvs,H2 d=some (.dK kvs):=let ⟨kvs,h,_⟩:=hA;⟨kvs,h⟩
    refine ifY (show V.str ("rule":Str)=V.str "rule" from rfl) (K6 (λb H5=>∃as,H5 b=some (.lst (as.map V.ref))∧b9 H5 as (if m∈aj (rs.take i) then [] else b5 rs m)∧ao B2 H5∧DA (λa=>(B2 a=none∧a≠kl)∧a≠ul) H5 d 100 (λy=>if y∈aj rs∧y∉aj (rs.take i)++[m] then some (b5 rs y) else none)∧H5 kl=some (.lst ((dk (rs.take i++[Rw.rule m k' p' ws])).map V.str))∧H5 ul=some (.lst (ra.map V.ref))∧cn H5 ra (de rs [] (rs.take i))) rfl rfl g2 (bp (k:=1) (by omega)) hkv ?_ ?_ ?_)
    ·intro v e he hv;have fs:(λy=>if y∈aj rs∧y∉aj (rs.take i) then some (b5 rs y) else none) m≠none:=λh=>by
      obtain ⟨kvs',e1,e2⟩:=hA.none (z:=m) h;cases e1.symm.trans hkv
      have hv:bz kvs (Sum.inr m)=some v:=hv;rw[e2] at hv;cases hv
     have hni:m∉aj (rs.take i):=λh=>fs (by show (if m∈aj rs∧m∉aj (rs.take i) then some (b5 rs m) else none)=none;rw[if_neg λx=>x.2 h]);have se:=ae he (.lst []);obtain ⟨kvs',b,as,k0,k1,k2,k3,k4,_,k6⟩:=(hA.same se).get (z:=m) (ts:=b5 rs m) (by rw[if_pos ⟨hmr,hni⟩]);cases k1.symm.trans (se _ _ hkv)
     have hv:bz kvs (Sum.inr m)=some v:=hv;rw[k2] at hv;cases hv
     have nbd:b≠d:=ui k3 k1 (by intro h;cases h);have tk:Tk (upd H2 e (.lst [])) (upd (upd H2 e (.lst [])) d (.dK (iz kvs (.inr m)))):=Tk.upd (Tk.refl _) λxs e=>by rw[k1] at e;cases e
     refine ⟨b,rfl,as,by rw[ai nbd];exact k3,by rw[if_neg hni];exact k4.keep tk,(s1.trans se).upd hdn _,k6.ext (λy=>?_) (aa3 _),by rw[ai kd.symm];exact se _ _ hk,by rw[ai ud.symm];exact se _ _ hu1,hr.keep ((Tk.of se).trans tk)⟩;by_cases c:y=m
     ·rw[if_pos c,if_neg λh=>h.2 (by rw[c];exact aai _ aa6)]
     ·rw[if_neg c];by_cases c2:y∈aj rs∧y∉aj (rs.take i)
      ·rw[if_pos c2,if_pos ⟨c2.1,λh=>(List.mem_append.mp h).elim c2.2 λh=>c (List.mem_singleton.mp h)⟩]
      ·rw[if_neg c2,if_neg λh=>c2 ⟨h.1,λh2=>h.2 (abl _ h2)⟩]
    ·intro e he hv;have hin:m∈aj (rs.take i):=by
      refine Classical.byContradiction λhni=>?_;obtain ⟨kvs',b,as,k0,k1,k2,_⟩:=hA.get (z:=m) (ts:=b5 rs m) (by rw[if_pos ⟨hmr,hni⟩]);cases k1.symm.trans hkv
      have hv:bz kvs (Sum.inr m)=none:=hv;rw[k2] at hv;cases hv
     have se:=ae he (.lst []);refine ⟨[],aa,by rw[if_pos hin];exact b9.nil _,s1.trans se,(hA.same se).ext (λy=>?_) (aa3 _),se _ _ hk,se _ _ hu1,hr.keep (Tk.of se)⟩;by_cases c2:y∈aj rs∧y∉aj (rs.take i)
     ·rw[if_pos c2,if_pos ⟨c2.1,λh=>(List.mem_append.mp h).elim c2.2 λh=>c2.2 (by rw[List.mem_singleton.mp h];exact hin)⟩]
     ·rw[if_neg c2,if_neg λh=>c2 ⟨h.1,λh2=>h.2 (abl _ h2)⟩]
    ·clear hA hk hu1 hr;rintro b H5 ⟨as,j1,j2,s5,hA,hk,hu1,hr⟩;refine ⟨_,.inl ⟨SqL.of j1,λda hda=>?_⟩⟩;have s6:=ae hda (.tup (as.map V.ref));have g6:upd H5 da (.tup (as.map V.ref)) a=some (.lst (((Rw.rule m k' p' ws).tx.map ag).map V.str)):=(s5.trans s6) _ _ h2;refine ⟨fo (s6 _ _ hu1),ah g6 (bp (k:=1) (by omega)) (ah g6 (bp (k:=2) (by omega)) (ah g6 (bp (k:=3) (by omega)) ⟨_,rfl,p',(dz pn).2.1,by have:=(dz pn).2.2;show (ag (.int p')).length≤640;omega,_,SqL.of g6,λc hc=>⟨ws,?_,λv hv=>sh_wd (o7 v hv),by omega,λt H7 s7 _ ht=>⟨by show (5:Nat)≤sizeLine;decide,λu hu=>?_⟩⟩⟩))⟩
     ·rw[show ck (((Rw.rule m k' p' ws).tx.map ag).map V.str) (some 5) none=(ws.map ag).map V.str from cx _ 5];exact aa
     have s67:=s6.trans ((ae hc _).trans s7);have s8:=ae hu (.tup [V.str m,V.str k',V.int p',V.ref t,V.ref da]);have s68:=s67.trans s8;have tkU:∀(H9:Hp) (o:HO),H9 ul=some (.lst (ra.map V.ref))→Tk H9 (upd H9 ul o):=λH9 o h=>Tk.upd (Tk.refl _) λxs e=>by rw[h] at e;cases e
     have hl8:=s68 _ _ hu1;refine ⟨ul,_,_,rfl,rfl,hl8,by rw[aa2,hr.1];omega,(eP1 _ _ _).mpr ⟨_,_,_,ra++[u],rfl,(s5.trans s68).upd Bu _,((hA.same s68).upd (λa h=>h.2) ud (λxs e=>by rw[hl8] at e;cases e) _).ext (λy=>by rw[et,qz]) (aa3 _),by rw[ai uk,et];exact s68 _ _ hk,by rw[aa,aad];rfl,?_⟩⟩;rw[et,cu,show de rs ([]++aj (rs.take i)) [Rw.rule m k' p' ws]=[⟨m,k',p',ws,if m∈[]++aj (rs.take i) then [] else b5 rs m⟩] from rfl];refine ((hr.keep (Tk.of s68)).keep (tkU _ _ hl8)).snoc ?_;exact ur.keep ⟨t,da,as,aa,s8 _ _ ht,((ae hc _).trans (s7.trans s8)) _ _ aa,j2.keep (Tk.of s68)⟩ (tkU _ _ hl8)
 ·rintro σ H1 hh;obtain ⟨v5,v6,v7,ra,rfl,s1,hA,hk,hu1,hr⟩:=(eP1 _ _ _).mp hh;clear hh;rw[aa2,r2,show (txs rs).length=rs.length from aa2 _,aat] at hk hr;push_cast [and_true];refine ⟨_,.inl ⟨SqL.of hk,λt1 ht1=>⟨_,.inl ⟨SqL.of (ae ht1 _ _ _ hu1),λt2 ht2=>⟨by show (2:Nat)≤sizeLine;decide,λb hb=>?_⟩⟩⟩⟩⟩;have S:=(ae ht1 (.tup ((dk rs).map V.str))).trans ((ae ht2 (.tup (ra.map V.ref))).trans (ae hb (.tup [V.ref t1,V.ref t2])));exact q b _ ((b1.trans (b2.trans s1)).trans S)
noncomputable abbrev qk:Stmt:=top 49
theorem Iw:au ["cell","k"] ["cell","k"] (af qk):=⟨rfl,rfl,rfl,by decide+kernel,rfl,by decide+kernel,by decide+kernel⟩
theorem Ls (G:Gs w K mg κ) (D:Def K mg "_law_hand" qk ["cell","k"]):Has P w K mg base (k+1) "_law_hand" ["cell","k"] vz:=by
 refine D.has Iw (λvs H Q E h=>?_) (λf cdv A outer s H vs Q E hr h=>?_)
 ·obtain ⟨_,_,rfl,_,_⟩:=h;rfl
 have nd:=Iw.nd;have hu:=br hr;have hu0:=aa9 hu;obtain ⟨c,k,rfl,hk,q⟩:=h;refine ⟨_,(AA (AF (AN (A1 (A6 0) (A1 (AD (BL 0) (AD (@wq _) (AD (AO 0) (AD (AO 0) (AD (BL 0) (A0 0 (by first | exact aa1 rfl | exact aa0 (aa1 rfl) | exact aa0 (aa0 rfl))) (A6 0)) (AD (@wq _) (A6 0) (A0 1 (by first | exact aa1 rfl | exact aa0 (aa1 rfl) | exact aa0 (aa0 rfl))))) (A6 0)) (A6 0)) (A6 0)) (A1 (A0 0 (by first | exact aa1 rfl | exact aa0 (aa1 rfl) | exact aa0 (aa0 rfl))) (A2 0))))))),?_⟩;rw[show start ["cell","k"] [.int c,.int (k:Int)]=[some (.int c),some (.int (k:Int))] from rfl];clear hu hu0 nd hr;push_cast [and_true];have e0:0≤c % 1000000007:=abh _ (by decide);have e1:c % 1000000007 < 1000000007:=abq _ (by decide);refine ⟨.inl ⟨by decide,by decide⟩,.inr ⟨by decide,by decide⟩,by show (3:Nat)≤sizeLine;decide,λp hp=>q p _ (ae hp _) hp ⟨_,_,_,aa,Int.le_refl _,Int.le_refl _,abh _ (by decide),abq _ (by decide)⟩⟩
noncomputable abbrev p7:Stmt:=top 50
theorem Jz:au ["hand","limit","found"] ["hand","limit"] (af p7):=⟨rfl,rfl,rfl,by decide+kernel,rfl,by decide+kernel,by decide+kernel⟩
theorem Mr (G:Gs w K mg κ) (D:Def K mg "_law_draw" p7 ["hand","limit"]):Has P w K mg base (k+1) "_law_draw" ["hand","limit"] di:=by
 refine D.has Jz (λvs H Q E h=>?_) (λf cdv A outer s H vs Q E hr h=>?_)
 ·obtain ⟨_,_,_,rfl,_,_,_,_,_⟩:=h;rfl
 have nd:=Jz.nd;have hu:=br hr;have hu0:=aa9 hu;obtain ⟨h,m,n,rfl,hh,hn,hm,hb,q⟩:=h;refine ⟨_,(A9 (AJ (AW (BB (AI (@op_geD _) (AB (AG 0) (A0 0 (by first | exact aa1 rfl | exact aa0 (aa1 rfl) | exact aa0 (aa0 rfl))) (A6 0)) (A6 0) (AE 0)) (BM (AI (@ip _) (AB (AG 0) (A0 0 (by first | exact aa1 rfl | exact aa0 (aa1 rfl) | exact aa0 (aa0 rfl))) (A6 0)) (C5 (@lj _) (A6 0)) (AE 0))))) (A9 (AH 2 nd (by first | exact aa1 rfl | exact aa0 rfl) (AD (BL 0) (AB (AG 0) (A0 0 (by first | exact aa1 rfl | exact aa0 (aa1 rfl) | exact aa0 (aa0 rfl))) (A6 0)) (A0 1 (by first | exact aa1 rfl | exact aa0 (aa1 rfl) | exact aa0 (aa0 rfl)))) (by first | exact .inl rfl | exact .inr rfl | assumption)) (A9 (C7 (AD (@Ai _) (AB (AG 0) (A0 0 (by first | exact aa1 rfl | exact aa0 (aa1 rfl) | exact aa0 (aa0 rfl))) (A6 0)) (A0 1 (by first | exact aa1 rfl | exact aa0 (aa1 rfl) | exact aa0 (aa0 rfl)))) (C8 (A0 0 (by first | exact aa1 rfl | exact aa0 (aa1 rfl) | exact aa0 (aa0 rfl))) (A6 0) (@set_list _))) (AA (AF (A0 2 (by first | exact aa1 rfl | exact aa0 (aa1 rfl) | exact aa0 (aa0 rfl))))))) (AK 0)) (A9 (C7 (AD (AO 0) (AB (AG 0) (A0 0 (by first | exact aa1 rfl | exact aa0 (aa1 rfl) | exact aa0 (aa0 rfl))) (A6 0)) (A6 0)) (C8 (A0 0 (by first | exact aa1 rfl | exact aa0 (aa1 rfl) | exact aa0 (aa0 rfl))) (A6 0) (@set_list _))) (A9 (C7 (AD (BL 0) (AD (AO 0) (AD (AO 0) (AD (@Lh _) (AB (AG 0) (A0 0 (by first | exact aa1 rfl | exact aa0 (aa1 rfl) | exact aa0 (aa0 rfl))) (A6 0)) (AB (AG 0) (A0 0 (by first | exact aa1 rfl | exact aa0 (aa1 rfl) | exact aa0 (aa0 rfl))) (A6 0))) (AD (@wq _) (A6 0) (AB (AG 0) (A0 0 (by first | exact aa1 rfl | exact aa0 (aa1 rfl) | exact aa0 (aa0 rfl))) (A6 0)))) (A6 0)) (A6 0)) (C8 (A0 0 (by first | exact aa1 rfl | exact aa0 (aa1 rfl) | exact aa0 (aa0 rfl))) (A6 0) (@set_list _))) (AA (AF (AD (BL 0) (AD (@Ai _) (AB (AG 0) (A0 0 (by first | exact aa1 rfl | exact aa0 (aa1 rfl) | exact aa0 (aa0 rfl))) (A6 0)) (A6 0)) (A0 1 (by first | exact aa1 rfl | exact aa0 (aa1 rfl) | exact aa0 (aa0 rfl))))))))),?_⟩;rw[show start ["hand","limit","found"] [.ref h,.int m]=[some (.ref h),some (.int m),none] from rfl];clear hu hu0 nd hr;push_cast [gSub,Ka];obtain ⟨a,b,c,h1,a0,an,b0,b1⟩:=hh;refine ah h1 rfl ?_;push_cast [and_true];have x0:0≤c % m:=abh _ (by omega);have x1:c % m < m:=abq _ hm;have one:sm K (V.ref h) (V.int 2) H λx H1=>(match x,V.int m with | V.int i,V.int j=>0 < j∧sm K (V.ref h) (V.int 2) H1 λx H1=>∃i_1,x=V.int i_1∧CDivB i_1 m∧∃x,H1 h=some (HO.lst x)∧∃x_1,ixN x.length 2=some x_1∧Q (V.int (i % j)) (upd H1 h (HO.lst (x.set x_1 (V.int (i_1 / m))))) | x,x_1=>False):=
  ah h1 rfl ⟨hm,ah h1 rfl ⟨c,rfl,⟨hm,hb⟩,_,h1,2,rfl,q _ _ (λb o nb ho=>by rw[ai nb];exact ho) ⟨a,b,c / m,aa,a0,by omega,b0,b1⟩ x0 x1⟩⟩
 refine bc (λ_=>one) λ_=>ah h1 rfl ?_;push_cast [and_true];refine bc (λ_=>one) λ_=>ah h1 rfl ?_;have bb:b.natAbs < 2 ^ 40:=aah (show b.natAbs < 1000000007 by omega) (by decide);refine ⟨_,h1,0,rfl,ah aa rfl (ah aa rfl ⟨b,rfl,b,rfl,⟨⟨40,by decide,bb⟩,⟨40,by decide,bb⟩⟩,ah aa rfl ⟨.inl ⟨by decide,by decide⟩,_,aa,1,rfl,ah aa rfl ⟨_,rfl,⟨by decide,by decide+kernel⟩,hm,?_⟩⟩⟩)⟩;refine q _ _ (λb' o nb ho=>by rw[ai nb,ai nb];exact ho) ⟨_,_,_,aa,?_,?_,abh _ (by decide),abq _ (by decide)⟩ (abh _ (by omega)) (abq _ hm)
 ·omega
 ·omega
noncomputable abbrev qf:Stmt:=top 52
theorem Ho:au ["hand","style","number"] ["hand"] (af qf):=⟨rfl,rfl,rfl,by decide+kernel,rfl,by decide+kernel,by decide+kernel⟩
theorem L9 (G:Gs w K mg κ) (h_law_draw:Has P w K mg base k "_law_draw" ["hand","limit"] di) (D:Def K mg "_law_number" qf ["hand"]):Has P w K mg base (k+1) "_law_number" ["hand"] xq:=by
 refine D.has Ho (λvs H Q E h=>?_) (λf cdv A outer s H vs Q E hr h=>?_)
 ·obtain ⟨_,_,rfl,_,_,_⟩:=h;rfl
 have nd:=Ho.nd;have hu:=br hr;have hu0:=aa9 hu;obtain ⟨h,n,rfl,hh,hn,q⟩:=h;refine ⟨_,(A9 (AH 1 nd (by first | exact aa1 rfl | exact aa0 rfl) (AC h_law_draw hr (A1 (A0 0 (by first | exact aa1 rfl | exact aa0 (aa1 rfl) | exact aa0 (aa0 rfl))) (A1 (A6 0) (A2 0)))) (by first | exact .inl rfl | exact .inr rfl | assumption)) (A9 (AH 2 nd (by first | exact aa1 rfl | exact aa0 rfl) (AC h_law_draw hr (A1 (A0 0 (by first | exact aa1 rfl | exact aa0 (aa1 rfl) | exact aa0 (aa0 rfl))) (A1 (AB (AG 0) (AN (A1 (A6 0) (A1 (A6 0) (A1 (AD (@Eo _) (A6 0) (A6 0)) (A1 (AD (@Eo _) (A6 0) (A6 0)) (A2 0)))))) (AD (BL 0) (A0 1 (by first | exact aa1 rfl | exact aa0 (aa1 rfl) | exact aa0 (aa0 rfl))) (A6 0))) (A2 0)))) (by first | exact .inl rfl | exact .inr rfl | assumption)) (AA (AF (AB (AG 0) (AN (A1 (A0 2 (by first | exact aa1 rfl | exact aa0 (aa1 rfl) | exact aa0 (aa0 rfl))) (A1 (C5 (@lj _) (A0 2 (by first | exact aa1 rfl | exact aa0 (aa1 rfl) | exact aa0 (aa0 rfl)))) (A2 0)))) (AD (@Ap _) (A0 1 (by first | exact aa1 rfl | exact aa0 (aa1 rfl) | exact aa0 (aa0 rfl))) (A6 0))))))),?_⟩;rw[show start ["hand","style","number"] [.ref h]=[some (.ref h),none,none] from rfl];clear hu hu0 nd hr;push_cast [di,CPow];have e12:(10:Int) ^ abe 12=1000000000000:=by decide+kernel
 have e60:(10:Int) ^ abe 60=1000000000000000000000000000000000000000000000000000000000000:=by decide+kernel
 have n60:(10:Nat) ^ 60=1000000000000000000000000000000000000000000000000000000000000:=by decide+kernel
 rw[e12,e60];rw[n60] at q;refine ⟨n,hh,by omega,by decide+kernel,λx H1 s1 hh1 x0 x8=>⟨by decide,by decide,by show (4:Nat)≤sizeLine;decide,λp hp=>?_⟩⟩;obtain ⟨y,hy,hm⟩:=gg [V.int 4,V.int 1000,V.int 1000000000000,V.int 1000000000000000000000000000000000000000000000000000000000000] (x % 4) (abh _ (by decide)) (by show x % 4 < 4;omega);obtain ⟨m,rfl,m0,m1⟩:∃m:Int,y=.int m∧0 < m∧m≤1000000000000000000000000000000000000000000000000000000000000:=by
  simp only[aav,aar,or_false] at hm;rcases hm with rfl | rfl | rfl | rfl <;> exact ⟨_,rfl,by decide,by decide⟩
 have s2:=ae hp (.lst [V.int 4,V.int 1000,V.int 1000000000000,V.int 1000000000000000000000000000000000000000000000000000000000000]);refine ah aa hy ⟨m,rfl,n+1,hh1.same s2,by omega,m0,?_,λz H2 s3 hh2 z0 z1=>⟨by show (2:Nat)≤sizeLine;decide,λp2 hp2=>?_⟩⟩
 ·by_cases m00:m.natAbs=0
  ·omega
  ·exact aah ((adq m00).mpr (show m.natAbs < 2 ^ 200 from ab1 (show m.natAbs≤1000000000000000000000000000000000000000000000000000000000000 by omega) (by decide+kernel))) (by decide)
 have hS:ak h H2 (upd H2 p2 (.lst [V.int z,V.int (-z)])):=ak.of (ae hp2 _);have hT:=(s1.trans ((ak.of s2).trans (s3.trans hS)));obtain ⟨v,hv,hmv⟩:=gg [V.int z,V.int (-z)] (x / 4) (by omega) (by show x / 4 < 2;omega);simp only[aav,aar,or_false] at hmv;refine ah aa hv ?_;rcases hmv with rfl | rfl
 ·exact q _ _ hT (hh2.same (ae hp2 _)) (by omega)
 ·exact q _ _ hT (hh2.same (ae hp2 _)) (by omega)
noncomputable abbrev kj:Stmt:=top 53
theorem Dh:au ["hand","names","style"] ["hand","names"] (af kj):=⟨rfl,rfl,rfl,by decide+kernel,rfl,by decide+kernel,by decide+kernel⟩
theorem Jg (G:Gs w K mg κ) (h_law_draw:Has P w K mg base k "_law_draw" ["hand","limit"] di) (h_law_number:Has P w K mg base k "_law_number" ["hand"] xq) (D:Def K mg "_law_any_word" kj ["hand","names"]):Has P w K mg base (k+1) "_law_any_word" ["hand","names"] vp:=by
 refine D.has Dh (λvs H Q E h=>?_) (λf cdv A outer s H vs Q E hr h=>?_)
 ·obtain ⟨_,_,_,rfl,_,_,_,_⟩:=h;rfl
 have nd:=Dh.nd;have hu:=br hr;have hu0:=aa9 hu;obtain ⟨h,l,n,rfl,hh,hN,hn,q⟩:=h;have m_len:=G.m_len;refine ⟨_,(A9 (AH 2 nd (by first | exact aa1 rfl | exact aa0 rfl) (AC h_law_draw hr (A1 (A0 0 (by first | exact aa1 rfl | exact aa0 (aa1 rfl) | exact aa0 (aa0 rfl))) (A1 (A6 0) (A2 0)))) (by first | exact .inl rfl | exact .inr rfl | assumption)) (A9 (AJ (AI (@ip _) (A0 2 (by first | exact aa1 rfl | exact aa0 (aa1 rfl) | exact aa0 (aa0 rfl))) (A6 0) (AE 0)) (AA (AF (AB (AG 0) (AN (B9 (A8 (A8 (A8 (A8 (A8 (A8 (BA 0))))))))) (A0 2 (by first | exact aa1 rfl | exact aa0 (aa1 rfl) | exact aa0 (aa0 rfl)))))) (AK 0)) (A9 (AJ (AI (AL 0) (A0 2 (by first | exact aa1 rfl | exact aa0 (aa1 rfl) | exact aa0 (aa0 rfl))) (A6 0) (AE 0)) (AA (AF (AC h_law_number hr (A1 (A0 0 (by first | exact aa1 rfl | exact aa0 (aa1 rfl) | exact aa0 (aa0 rfl))) (A2 0))))) (AK 0)) (AA (AF (AB (AG 0) (A0 1 (by first | exact aa1 rfl | exact aa0 (aa1 rfl) | exact aa0 (aa0 rfl))) (AC h_law_draw hr (A1 (A0 0 (by first | exact aa1 rfl | exact aa0 (aa1 rfl) | exact aa0 (aa0 rfl))) (A1 (AM (AU 0) m_len b8 (A1 (A0 1 (by first | exact aa1 rfl | exact aa0 (aa1 rfl) | exact aa0 (aa0 rfl))) (A2 0))) (A2 0)))))))))),?_⟩;rw[show start ["hand","names","style"] [.ref h,.ref l]=[some (.ref h),some (.ref l),none] from rfl];clear hu hu0 nd hr;push_cast [and_true];have hh0:=hh;refine az hh (by omega) (by decide) (by decide+kernel) λx H1 s1 hh1 x0 x9=>bc (λc=>⟨by show (6:Nat)≤sizeLine;decide,λp hp=>?_⟩) λc=>⟨rfl,bc (λc1=>⟨h,n+1,rfl,hh1,by omega,λi H2 s2 hh2 hi=>q _ _ (s1.trans s2) hh2 (.inl hi)⟩) λc1=>?_⟩
 ·obtain ⟨v,hv,hm⟩:=gg [V.str (Str.ofString "add"),V.str (Str.ofString "sub"),V.str (Str.ofString "mul"),V.str (Str.ofString "neg"),V.str (Str.ofString "any"),V.str (Str.ofString "var")] x x0 (by show x < 6;omega);exact ah aa hv (q _ _ (s1.trans (ak.of (ae hp _))) ((hh1.same (ae hp _)).le (by omega)) (Mj v hm))
 ·obtain ⟨zs,h1,h2,h3⟩:=hN;have nl:=hh0.ne h1 (by rw[aa2];omega);have g1:=s1 _ _ nl h1;refine ⟨_,.inl (SqL.of g1),?_⟩;rw[aa2,h2];refine az hh1 (by omega) (by decide) (by decide+kernel) λy H2 s2 hh2 y0 y1=>?_;obtain ⟨z,hz,hm⟩:=vq h2 y0 y1;exact ah (s2 _ _ nl g1) hz (q _ _ (s1.trans s2) (hh2.le (by omega)) (.inl (.inl (h3 z hm))))
noncomputable abbrev kb:Stmt:=top 54
theorem Es:au ["hand","box","some","style","word"] ["hand"] (af kb):=⟨rfl,rfl,rfl,by decide+kernel,rfl,by decide+kernel,by decide+kernel⟩
theorem Ja (G:Gs w K mg κ) (h_law_draw:Has P w K mg base k "_law_draw" ["hand","limit"] di) (h_law_number:Has P w K mg base k "_law_number" ["hand"] xq) (D:Def K mg "_law_any_deed" kb ["hand"]):Has P w K mg base (k+1) "_law_any_deed" ["hand"] om:=by
 refine D.has Es (λvs H Q E h=>?_) (λf cdv A outer s H vs Q E hr h=>?_)
 ·obtain ⟨_,_,rfl,_,_,_⟩:=h;rfl
 have nd:=Es.nd;have hu:=br hr;have hu0:=aa9 hu;obtain ⟨h,n,rfl,hh,hn,q⟩:=h;have m_range:=G.m_range;have m_str:=G.m_str;refine ⟨_,(A9 (AH 1 nd (by first | exact aa1 rfl | exact aa0 rfl) (AB (AG 0) (AN (B9 (A8 (A8 (A8 (A8 (BA 0))))))) (AC h_law_draw hr (A1 (A0 0 (by first | exact aa1 rfl | exact aa0 (aa1 rfl) | exact aa0 (aa0 rfl))) (A1 (A6 0) (A2 0))))) (by first | exact .inl rfl | exact .inr rfl | assumption)) (A9 (AH 2 nd (by first | exact aa1 rfl | exact aa0 rfl) (AD (@gm _) (AN (B9 (A8 (A8 (A8 (A8 (BA 0))))))) (BH (AY ["k"] [] [] trivial trivial) (@Gg _ _ _ _ _ _ _ rfl m_range (A1 (A6 0) (A1 (A6 0) (A2 0))) (by rfl) (by rfl)) (λ_ _ _=>(AZ 0 (show aba (["k"]:List Str) by decide+kernel) (by first | exact .inl rfl | exact .inr rfl | assumption))) (λ_ _ _=>(@lb _)) (λ_ _ _=>(AD (B7 0) (A7 0) (B5 (BZ 0) m_str sy (A1 (A0 0 (by first | exact aa1 rfl | exact aa0 (aa1 rfl) | exact aa0 (aa0 rfl))) (A2 0))))))) (by first | exact .inl rfl | exact .inr rfl | assumption)) (A9 (AH 3 nd (by first | exact aa1 rfl | exact aa0 rfl) (AC h_law_draw hr (A1 (A0 0 (by first | exact aa1 rfl | exact aa0 (aa1 rfl) | exact aa0 (aa0 rfl))) (A1 (A6 0) (A2 0)))) (by first | exact .inl rfl | exact .inr rfl | assumption)) (A9 (AJ (AI (AL 0) (A0 3 (by first | exact aa1 rfl | exact aa0 (aa1 rfl) | exact aa0 (aa0 rfl))) (A6 0) (AE 0)) (AA (AF (AV (A1 (A7 0) (A1 (A0 1 (by first | exact aa1 rfl | exact aa0 (aa1 rfl) | exact aa0 (aa0 rfl))) (A1 (AC h_law_number hr (A1 (A0 0 (by first | exact aa1 rfl | exact aa0 (aa1 rfl) | exact aa0 (aa0 rfl))) (A2 0))) (A2 0))))))) (AK 0)) (A9 (AJ (AI (AL 0) (A0 3 (by first | exact aa1 rfl | exact aa0 (aa1 rfl) | exact aa0 (aa0 rfl))) (A6 0) (AE 0)) (AA (AF (AV (A1 (A7 0) (A1 (A0 1 (by first | exact aa1 rfl | exact aa0 (aa1 rfl) | exact aa0 (aa0 rfl))) (A1 (AD (B7 0) (A7 0) (B5 (BZ 0) m_str sy (A1 (AD (AO 0) (A6 0) (AC h_law_draw hr (A1 (A0 0 (by first | exact aa1 rfl | exact aa0 (aa1 rfl) | exact aa0 (aa0 rfl))) (A1 (A6 0) (A2 0))))) (A2 0)))) (A2 0))))))) (AK 0)) (A9 (AJ (AI (AL 0) (A0 3 (by first | exact aa1 rfl | exact aa0 (aa1 rfl) | exact aa0 (aa0 rfl))) (A6 0) (AE 0)) (AA (AF (AV (A1 (A7 0) (A1 (A0 1 (by first | exact aa1 rfl | exact aa0 (aa1 rfl) | exact aa0 (aa0 rfl))) (A1 (AD (B7 0) (A7 0) (B5 (BZ 0) m_str sy (A1 (AD (AO 0) (A6 0) (AC h_law_draw hr (A1 (A0 0 (by first | exact aa1 rfl | exact aa0 (aa1 rfl) | exact aa0 (aa0 rfl))) (A1 (A6 0) (A2 0))))) (A2 0)))) (A2 0))))))) (AK 0)) (A9 (AJ (AI (AL 0) (A0 3 (by first | exact aa1 rfl | exact aa0 (aa1 rfl) | exact aa0 (aa0 rfl))) (A6 0) (AE 0)) (AA (AF (AV (A1 (A7 0) (A1 (A0 1 (by first | exact aa1 rfl | exact aa0 (aa1 rfl) | exact aa0 (aa0 rfl))) (A1 (AB (AG 0) (A0 2 (by first | exact aa1 rfl | exact aa0 (aa1 rfl) | exact aa0 (aa0 rfl))) (AC h_law_draw hr (A1 (A0 0 (by first | exact aa1 rfl | exact aa0 (aa1 rfl) | exact aa0 (aa0 rfl))) (A1 (A6 0) (A2 0))))) (A2 0))))))) (AK 0)) (A9 (AH 4 nd (by first | exact aa1 rfl | exact aa0 rfl) (AB (AG 0) (AN (B9 (A8 (A8 (A8 (BA 0)))))) (AC h_law_draw hr (A1 (A0 0 (by first | exact aa1 rfl | exact aa0 (aa1 rfl) | exact aa0 (aa0 rfl))) (A1 (A6 0) (A2 0))))) (by first | exact .inl rfl | exact .inr rfl | assumption)) (AA (AF (AV (A1 (A0 4 (by first | exact aa1 rfl | exact aa0 (aa1 rfl) | exact aa0 (aa0 rfl))) (A1 (A0 1 (by first | exact aa1 rfl | exact aa0 (aa1 rfl) | exact aa0 (aa0 rfl))) (A1 (AB (AG 0) (A0 2 (by first | exact aa1 rfl | exact aa0 (aa1 rfl) | exact aa0 (aa0 rfl))) (AC h_law_draw hr (A1 (A0 0 (by first | exact aa1 rfl | exact aa0 (aa1 rfl) | exact aa0 (aa0 rfl))) (A1 (A6 0) (A2 0))))) (A1 (AB (AG 0) (A0 2 (by first | exact aa1 rfl | exact aa0 (aa1 rfl) | exact aa0 (aa0 rfl))) (AC h_law_draw hr (A1 (A0 0 (by first | exact aa1 rfl | exact aa0 (aa1 rfl) | exact aa0 (aa0 rfl))) (A1 (A6 0) (A2 0))))) (A2 0)))))))))))))))),?_⟩;rw[show start ["hand","box","some","style","word"] [.ref h]=[some (.ref h),none,none,none,none] from rfl];clear hu hu0 nd hr;push_cast [and_true];have sz:=sizeLine_eq;refine ⟨by show (4:Nat)≤sizeLine;decide,λp hp=>az (hh.same (ae hp _)) (by omega) (by decide) (by decide+kernel) λx H1 s1 hh1 x0 x4=>?_⟩;have S1:=(ak.of (d:=h) (ae hp (.lst [V.str (Str.ofString "out"),V.str (Str.ofString "t1"),V.str (Str.ofString "t2"),V.str (Str.ofString "t3")]))).trans s1;obtain ⟨bx,hbx,hm⟩:=gg [V.str (Str.ofString "out"),V.str (Str.ofString "t1"),V.str (Str.ofString "t2"),V.str (Str.ofString "t3")] x x0 (by show x < 4;omega);have hb:=Nb bx hm;have hp1:=s1 p _ (λe=>by obtain ⟨a,b,c,h1,_⟩:=hh;rw[e,h1] at hp;cases hp) aa;refine ah hp1 hbx ⟨by show (4:Nat)≤sizeLine;decide,λp2 hp2 D hD=>?_⟩;refine zg (λi ys=>ys=(abf i).map λk=>V.str (gq 104 (k+1))) (by show (9:Nat) < sizeLine;decide) hD rfl (λi ys H2 G' K' hi hP hl2 hS hG hK=>?_) λys H2 hP hl2 hS hD2=>?_
 ·push_cast [and_true];have e:=(u0 ⟨i,by have:i < 9:=hi;omega⟩).2.2;have e:Str.ofString "h"++ag (.int (1+(i:Int)))=gq 104 (i+1):=e;refine ⟨m5 (show (1+(i:Int)).natAbs < 10 ^ 60 from ab1 (show (1+(i:Int)).natAbs≤10 by have:i < 9:=hi;omega) (by decide+kernel)),?_,hK _ _ (ao.refl _) ?_⟩
  ·rw[show (Str.ofString "h").length+(ag (.int (1+(i:Int)))).length=(Str.ofString "h"++ag (.int (1+(i:Int)))).length from (abu).symm,e];show (2:Nat)≤sizeLine
   decide
  ·rw[e,hP,acz,aad];rfl
 have hP:ys=(abf 9).map λk=>V.str (gq 104 (k+1)):=hP;subst hP;have S2:=(ak.of (d:=h) (ae hp2 (.lst [V.str (Str.ofString "out"),V.str (Str.ofString "t1"),V.str (Str.ofString "t2"),V.str (Str.ofString "t3")]))).trans (ak.of hS);refine dv (hS _ _ aa) hD2 (by show (13:Nat)≤sizeLine;decide) λsl hsl=>?_;have hh2:=((hh1.same (ae hp2 _)).same hS).same (ae hsl (.lst j4));have S3:=S1.trans (S2.trans (ak.of (ae hsl (.lst j4))));have nsl:sl≠h:=λe=>by obtain ⟨a,b,c,h1,_⟩:=hh1;have:=hS _ _ (ae hp2 _ _ _ h1);rw[e,this] at hsl;cases hsl
 have hs3:upd H2 sl (.lst j4) sl=some (.lst j4):=aa;show di [.ref h,.int 6] (upd H2 sl (.lst j4)) _ _
 have frH:∀{t:Addr} {H4:Hp} {k:Nat},aw H4 h k→ak h H H4→H4 t=none→H t=none:=λa s ht=>by obtain ⟨_,_,_,h1,_⟩:=a;exact s.free h1 ht
 have ft:∀(H4:Hp) (k:Nat) (x:Int),ak h (upd H2 sl (.lst j4)) H4→0≤x→x < 13→∃v,ny v∧∀Q:VK,Q v H4→sm K (.ref sl) (.int x) H4 Q:=λH4 k x s x0 x1=>by
  obtain ⟨v,hv,hm⟩:=gg j4 x x0 (by show x < 13;omega);exact ⟨v,Ib v hm,λQ hQ=>ah (s _ _ nsl hs3) hv hQ⟩
 generalize upd H2 sl (.lst j4)=H3 at hh2 S3 hs3 ft ⊢;have wl:∀y:Int,0≤y→y < 9→tq (.int (1+y)):=λy y0 y1=>m5 (show (1+y).natAbs < 10 ^ 60 from ab1 (show (1+y).natAbs≤10 by omega) (by decide+kernel));have lt:∀y:Int,0≤y→y < 9→(Str.ofString "n"++ag (.int (1+y))=gq 110 (y.toNat+1))∧(Str.ofString "v"++ag (.int (1+y))=gq 118 (y.toNat+1)):=λy y0 y1=>by
  have:=u0 ⟨y.toNat,by omega⟩;rw[show (((⟨y.toNat,by omega⟩:_root_.Fin 9).val:Nat):Int)=y by show ((y.toNat:Nat):Int)=y;omega] at this;exact ⟨this.1,this.2.1⟩
 refine az hh2 (by omega) (by decide) (by decide+kernel) λst H4 s4 hh4 t0 t6=>⟨rfl,bc (λc=>⟨h,_,rfl,hh4,by omega,λi H5 s5 hh5 hi=>⟨by show (3:Nat)≤sizeLine;decide,λt ht=>?_⟩⟩) λc=>⟨rfl,bc (λc=>?_) λc=>⟨rfl,bc (λc=>?_) λc=>⟨rfl,bc (λc=>?_) λc=>?_⟩⟩⟩⟩
 ·have S5:=S3.trans (s4.trans s5);exact q t _ _ (S5.trans (ak.of (ae ht _))) (frH hh5 S5 ht) aa ((hh5.same (ae ht _)).le (by omega)) (.inl ⟨bx,_,rfl,hb,.inl ⟨i,rfl,hi⟩⟩)
 ·refine az hh4 (by omega) (by decide) (by decide+kernel) λy H5 s5 hh5 y0 y1=>⟨wl y y0 y1,?_,by show (3:Nat)≤sizeLine;decide,λt ht=>?_⟩
  ·rw[show (Str.ofString "n").length+(ag (.int (1+y))).length=(Str.ofString "n"++ag (.int (1+y))).length from (abu).symm,(lt y y0 y1).1];show (2:Nat)≤sizeLine
   decide
  ·have S5:=S3.trans (s4.trans s5);rw[(lt y y0 y1).1];exact q t _ _ (S5.trans (ak.of (ae ht _))) (frH hh5 S5 ht) aa ((hh5.same (ae ht _)).le (by omega)) (.inl ⟨bx,_,rfl,hb,.inr ⟨y.toNat+1,by omega,by omega,rfl⟩⟩)
 ·refine az hh4 (by omega) (by decide) (by decide+kernel) λy H5 s5 hh5 y0 y1=>⟨wl y y0 y1,?_,by show (3:Nat)≤sizeLine;decide,λt ht=>?_⟩
  ·rw[show (Str.ofString "v").length+(ag (.int (1+y))).length=(Str.ofString "v"++ag (.int (1+y))).length from (abu).symm,(lt y y0 y1).2];show (2:Nat)≤sizeLine
   decide
  ·have S5:=S3.trans (s4.trans s5);rw[(lt y y0 y1).2];exact q t _ _ (S5.trans (ak.of (ae ht _))) (frH hh5 S5 ht) aa ((hh5.same (ae ht _)).le (by omega)) (.inr (.inl ⟨bx,_,rfl,hb,y.toNat+1,by omega,by omega,rfl⟩))
 ·refine az hh4 (by omega) (by decide) (by decide+kernel) λy H5 s5 hh5 y0 y1=>?_;obtain ⟨v,fv,hv⟩:=ft H5 0 y (s4.trans s5) y0 y1;refine hv _ ⟨by show (3:Nat)≤sizeLine;decide,λt ht=>?_⟩;have S5:=S3.trans (s4.trans s5);exact q t _ _ (S5.trans (ak.of (ae ht _))) (frH hh5 S5 ht) aa ((hh5.same (ae ht _)).le (by omega)) (.inr (.inr (.inl ⟨bx,v,rfl,hb,fv⟩)))
 ·refine ⟨by show (3:Nat)≤sizeLine;decide,λp3 hp3=>az (hh4.same (ae hp3 _)) (by omega) (by decide) (by decide+kernel) λy H5 s5 hh5 y0 y1=>?_⟩;have n3:p3≠h:=λe=>by obtain ⟨a,b,c,h1,_⟩:=hh4;rw[e,h1] at hp3;cases hp3
  obtain ⟨o,ho,hm⟩:=gg [V.str (Str.ofString "add"),V.str (Str.ofString "sub"),V.str (Str.ofString "mul")] y y0 (by show y < 3;omega);obtain ⟨z,rfl,hz⟩:=Mu o hm;refine ah (s5 _ _ n3 aa) ho (az hh5 (by omega) (by decide) (by decide+kernel) λy1 H6 s6 hh6 y10 y11=>?_);have S45:=s4.trans ((ak.of (ae hp3 (.lst [V.str (Str.ofString "add"),V.str (Str.ofString "sub"),V.str (Str.ofString "mul")]))).trans s5);obtain ⟨v1,fv1,hv1⟩:=ft H6 0 y1 (S45.trans s6) y10 y11;refine hv1 _ (az hh6 (by omega) (by decide) (by decide+kernel) λy2 H7 s7 hh7 y20 y21=>?_);obtain ⟨v2,fv2,hv2⟩:=ft H7 0 y2 (S45.trans (s6.trans s7)) y20 y21;refine hv2 _ ⟨by show (4:Nat)≤sizeLine;decide,λt ht=>?_⟩;have S7:=S3.trans (S45.trans (s6.trans s7));exact q t _ _ (S7.trans (ak.of (ae ht _))) (frH hh7 S7 ht) aa ((hh7.same (ae ht _)).le (by omega)) (.inr (.inr (.inr ⟨z,bx,v1,v2,rfl,hz,hb,fv1,fv2⟩)))
noncomputable abbrev ib:Stmt:=top 51
theorem zr:au ["hand","size","letters","base","at","shift","names","k","middle","name"] ["hand","size"] (af ib):=⟨rfl,rfl,rfl,by decide+kernel,rfl,by decide+kernel,by decide+kernel⟩
theorem Gq (G:Gs w K mg κ) (h_law_draw:Has P w K mg base k "_law_draw" ["hand","limit"] di) (D:Def K mg "_law_names" ib ["hand","size"]):Has P w K mg base (k+1) "_law_names" ["hand","size"] ng:=by
 refine D.has zr (λvs H Q E h=>?_) (λf cdv A outer s H vs Q E hr h=>?_)
 ·obtain ⟨_,rfl,_,_⟩:=h;rfl
 have nd:=zr.nd;have hu:=br hr;have hu0:=aa9 hu;obtain ⟨h,rfl,hh,q⟩:=h;have m_len:=G.m_len;have m_range:=G.m_range;refine ⟨_,(A9 (AH 2 nd (by first | exact aa1 rfl | exact aa0 rfl) (A7 0) (by first | exact .inl rfl | exact .inr rfl | assumption)) (A9 (AH 3 nd (by first | exact aa1 rfl | exact aa0 rfl) (AQ PySem.F.plainAttrs_str PySem.F.slot_str_join PySem.F.type_str_join (BP 0) (A7 0) (A1 (BH (AY ["k"] ["letters","hand"] [2,0] (aay rfl (aay rfl trivial)) (aay (aay rfl (aay rfl rfl)) (aay (aay rfl (aay rfl rfl)) trivial))) (C0 m_range (A1 (AC h_law_draw hr (A1 (A0 0 (by first | exact aa1 rfl | exact aa0 (aa1 rfl) | exact aa0 (aa0 rfl))) (A1 (A6 0) (A2 0)))) (A2 0))) (λ_ _ _=>(AZ 0 (show aba (["k","letters","hand"]:List Str) by decide+kernel) (by first | exact .inl rfl | exact .inr rfl | assumption))) (λ_ _ _=>(@lb _)) (λ_ _ _=>(AB (@m6 _) (A0 1 (by first | exact aa1 rfl | exact aa0 (aa1 rfl) | exact aa0 (aa0 rfl))) (AC h_law_draw hr (A1 (A0 2 (by first | exact aa1 rfl | exact aa0 (aa1 rfl) | exact aa0 (aa0 rfl))) (A1 (A6 0) (A2 0))))))) (A2 0))) (by first | exact .inl rfl | exact .inr rfl | assumption)) (A9 (AH 4 nd (by first | exact aa1 rfl | exact aa0 rfl) (AC h_law_draw hr (A1 (A0 0 (by first | exact aa1 rfl | exact aa0 (aa1 rfl) | exact aa0 (aa0 rfl))) (A1 (AD (AO 0) (AM (BT 0) m_len b8 (A1 (A0 3 (by first | exact aa1 rfl | exact aa0 (aa1 rfl) | exact aa0 (aa0 rfl))) (A2 0))) (A6 0)) (A2 0)))) (by first | exact .inl rfl | exact .inr rfl | assumption)) (A9 (AH 5 nd (by first | exact aa1 rfl | exact aa0 rfl) (AC h_law_draw hr (A1 (A0 0 (by first | exact aa1 rfl | exact aa0 (aa1 rfl) | exact aa0 (aa0 rfl))) (A1 (A6 0) (A2 0)))) (by first | exact .inl rfl | exact .inr rfl | assumption)) (A9 (AH 6 nd (by first | exact aa1 rfl | exact aa0 rfl) (AN (A2 0)) (by first | exact .inl rfl | exact .inr rfl | assumption)) (A9 (BX (C0 m_range (A1 (A0 1 (by first | exact aa1 rfl | exact aa0 (aa1 rfl) | exact aa0 (aa0 rfl))) (A2 0))) (B6 7 nd (by first | exact aa1 rfl | exact aa0 rfl) (by first | exact .inl rfl | exact .inr rfl | assumption)) (A9 (AH 8 nd (by first | exact aa1 rfl | exact aa0 rfl) (AD (B7 0) (AB (@m6 _) (A0 2 (by first | exact aa1 rfl | exact aa0 (aa1 rfl) | exact aa0 (aa0 rfl))) (AD (BL 0) (AD (AO 0) (A0 7 (by first | exact aa1 rfl | exact aa0 (aa1 rfl) | exact aa0 (aa0 rfl))) (A0 5 (by first | exact aa1 rfl | exact aa0 (aa1 rfl) | exact aa0 (aa0 rfl)))) (A6 0))) (AB (@m6 _) (A0 2 (by first | exact aa1 rfl | exact aa0 (aa1 rfl) | exact aa0 (aa0 rfl))) (AD (BL 0) (AD (AO 0) (AD (@Ap _) (A0 7 (by first | exact aa1 rfl | exact aa0 (aa1 rfl) | exact aa0 (aa0 rfl))) (A6 0)) (A0 5 (by first | exact aa1 rfl | exact aa0 (aa1 rfl) | exact aa0 (aa0 rfl)))) (A6 0)))) (by first | exact .inl rfl | exact .inr rfl | assumption)) (A9 (AH 9 nd (by first | exact aa1 rfl | exact aa0 rfl) (AD (B7 0) (AD (B7 0) (AR (@Cj _) (A0 3 (by first | exact aa1 rfl | exact aa0 (aa1 rfl) | exact aa0 (aa0 rfl))) (AT 0) (AS (A0 4 (by first | exact aa1 rfl | exact aa0 (aa1 rfl) | exact aa0 (aa0 rfl))))) (A0 8 (by first | exact aa1 rfl | exact aa0 (aa1 rfl) | exact aa0 (aa0 rfl)))) (AR (@Cj _) (A0 3 (by first | exact aa1 rfl | exact aa0 (aa1 rfl) | exact aa0 (aa0 rfl))) (AS (A0 4 (by first | exact aa1 rfl | exact aa0 (aa1 rfl) | exact aa0 (aa0 rfl)))) (AT 0))) (by first | exact .inl rfl | exact .inr rfl | assumption)) (BD (AJ (CB (@jq _) (A0 9 (by first | exact aa1 rfl | exact aa0 (aa1 rfl) | exact aa0 (aa0 rfl))) (AV (B9 (A8 (A8 (A8 (A8 (A8 (A8 (A8 (A8 (A8 (BA 0))))))))))))) (AA (AH 9 nd (by first | exact aa1 rfl | exact aa0 rfl) (AD (B7 0) (A0 9 (by first | exact aa1 rfl | exact aa0 (aa1 rfl) | exact aa0 (aa0 rfl))) (A7 0)) (by first | exact .inl rfl | exact .inr rfl | assumption))) (AK 0)) (AA (BG (AQ PySem.F.plainAttrs_list PySem.F.slot_list_append PySem.F.type_list_append (BQ 0) (A0 6 (by first | exact aa1 rfl | exact aa0 (aa1 rfl) | exact aa0 (aa0 rfl))) (A1 (A0 9 (by first | exact aa1 rfl | exact aa0 (aa1 rfl) | exact aa0 (aa0 rfl))) (A2 0))))))))) (AA (AF (A0 6 (by first | exact aa1 rfl | exact aa0 (aa1 rfl) | exact aa0 (aa0 rfl))))))))))),?_⟩;rw[show start ["hand","size","letters","base","at","shift","names","k","middle","name"] [.ref h,.int 24]=[some (.ref h),some (.int 24),none,none,none,none,none,none,none,none] from rfl];clear hu hu0 nd hr;push_cast [and_true];have sz:=sizeLine_eq;have ll:(Str.ofString "abcdefghijklmnopqrstuvwxyz").length≤sizeLine:=by decide+kernel
 have la:∀a b:Str,(a++b).length=a.length+b.length:=λa b=>abu;have frH:∀{t:Addr} {H4:Hp} {k:Nat},aw H4 h k→ak h H H4→H4 t=none→H t=none:=λa s ht=>by obtain ⟨_,_,_,h1,_⟩:=a;exact s.free h1 ht
 refine az hh (by omega) (by decide) (by decide+kernel) λx H1 s1 hh1 x0 x7=>⟨x,rfl,by omega,by omega,λD hD=>?_⟩;have HD:=frH hh1 s1 hD;have nD:D≠h:=λe=>by obtain ⟨a,b,c,h1,_⟩:=hh1;rw[e,h1] at hD;cases hD
 refine Dd (λi ys H2=>(∃zs:List Str,ys=zs.map V.str∧zs.length=i∧∀z∈zs,z.length=1∧∀c∈z.cps.toList,97≤c∧c≤122)∧ak h H H2∧aw H2 h (1+i)) (by omega) ⟨⟨[],rfl,rfl,λ_ h=>nomatch h⟩,s1.upd HD _,hh1.same (ae hD _)⟩ (λi ys H2 G' K' hi hP hl hD2 hG hK=>?_) λys H2 hP hl hD2=>?_
 ·obtain ⟨⟨zs,rfl,z1,z2⟩,s2,hh2⟩:=hP;push_cast [and_true];refine az hh2 (by omega) (by decide) (by decide+kernel) λy H3 s3 hh3 y0 y1=>?_;obtain ⟨c,hc,c0,c1⟩:=let_of y0 y1;refine ⟨_,_,_,rfl,rfl,ll,hc,hK _ _ (s3 _ _ nD hD2) ⟨⟨zs++[⟨#[c]⟩],by rw[aad];rfl,by rw[aa4,z1];rfl,λz hz=>?_⟩,(s2.trans s3).upd HD _,?_⟩⟩
  ·rcases List.mem_append.mp hz with m | m
   ·exact z2 z m
   ·rw[List.mem_singleton.mp m];exact ⟨rfl,λc' hc'=>by have e:c'=c:=(by simpa using hc');omega⟩
  ·obtain ⟨a,b,c',h1,r⟩:=hh3;exact aw.le ⟨a,b,c',by rw[ai nD.symm];exact h1,r⟩ (by omega)
 obtain ⟨⟨zs,rfl,z1,z2⟩,s2,hh2⟩:=hP;have e0:(Str.ofString "").length=0:=by decide+kernel
 have sum1:=yv zs λz hz=>(z2 z hz).1;have jl:=join_le (Str.ofString "") zs;rw[e0,Nat.mul_zero,Nat.add_zero,sum1] at jl;have jc:∀c∈(Txt.join (Str.ofString "") zs).cps.toList,97≤c∧c≤122:=λc hc=>by
  obtain ⟨z,hz,h⟩:=Cd hc;exact (z2 z hz).2 c h
 refine ⟨zs,SqL.of hD2,by rw[e0,Nat.mul_zero,Nat.add_zero,sum1];omega,by omega,?_⟩;generalize Txt.join (Str.ofString "") zs=bs at jl jc ⊢;refine az hh2 (by omega) (by omega) ?_ λy H3 s3 hh3 y0 y1=>az hh3 (by omega) (by decide) (by decide+kernel) λsh H4 s4 hh4 sh0 sh1=>⟨ab7 _,λnl hnl=>?_⟩
 ·by_cases m00:((bs.length:Int)+1).natAbs=0
  ·omega
  ·exact aah ((adq m00).mpr (show ((bs.length:Int)+1).natAbs < 2 ^ 20 from ab1 (show ((bs.length:Int)+1).natAbs≤8 by omega) (by decide+kernel))) (by decide)
 have S4:=s2.trans (s3.trans s4);have HL:=frH hh4 S4 hnl;have bl:bs.length≤6:=by omega
 have nh:h≠nl:=λe=>by obtain ⟨_,_,_,h1,_⟩:=hh4;rw[←e,h1] at hnl;cases hnl
 have hh10:aw H4 h 10:=hh4.le (by omega);clear hh hh1 hh2 hh3 hD2 z1 z2 sum1 s1 s2 s3 s4 hD x7 x0;refine km (lo:=0) (λj σ H'=>∃(v7 v8 v9:Option V),σ=[some (.ref h),some (.int 24),some (.str (Str.ofString "abcdefghijklmnopqrstuvwxyz")),some (.str bs),some (.int y),some (.int sh),some (.ref nl),v7,v8,v9]∧ak h H H'∧aw H' h 10∧H' nl=some (.lst (((abf j).map (nmN (cj bs none (some y)) (cj bs (some y) none) sh)).map V.str))∧∀i < j,ax (nmN (cj bs none (some y)) (cj bs (some y) none) sh i)=true) ⟨none,none,none,rfl,S4.upd HL _,hh10.same (ae hnl _),aa,λ_ h=>absurd h (acy _)⟩ ?_ ?_
 ·rintro j σ H5 hj ⟨v7,v8,v9,rfl,s5,hh5,hl5,un⟩;push_cast [rIxS];obtain ⟨c,hc,ec⟩:=Ea (0+(j:Int)+sh);obtain ⟨e,he,ee⟩:=Ea ((0+(j:Int)) / 26+sh);have c26:c < 26:=by omega
  have e26:e < 26:=by omega
  have ec2:c=(((j:Int)+sh) % 26).toNat:=by omega
  have ee2:e=(((j:Int) / 26+sh) % 26).toNat:=by omega
  have hj:j < 24:=hj;have k1:=Ky bs y;have l1:=Du (97+c);have l2:=Du (97+e);refine ⟨ll,97+c,hc,ll,97+e,he,by omega,by omega,by rw[la];omega,by omega,by rw[la,la];omega,?_⟩;have zc:∀x∈(cj bs none (some y)++((⟨#[97+c]⟩:Str)++⟨#[97+e]⟩)++cj bs (some y) none).cps.toList,97≤x∧x≤122:=λx hx=>by
   simp only[Str.cps_append,acd,ado] at hx;rcases hx with (hx | hx | hx) | hx
   ·exact jc x (E6 hx)
   ·have hx:x=97+c:=by simpa using hx
    omega
   ·have hx:x=97+e:=by simpa using hx
    omega
   ·exact jc x (E6 hx)
  have zl:1≤(cj bs none (some y)++((⟨#[97+c]⟩:Str)++⟨#[97+e]⟩)++cj bs (some y) none).length∧(cj bs none (some y)++((⟨#[97+c]⟩:Str)++⟨#[97+e]⟩)++cj bs (some y) none).length≤8:=by
   rw[la,la,la];omega
  have ez:nmZ (cj bs none (some y)) (cj bs (some y) none) sh j=cj bs none (some y)++((⟨#[97+c]⟩:Str)++⟨#[97+e]⟩)++cj bs (some y) none:=by unfold nmZ;rw[←ec2,←ee2]
  generalize cj bs none (some y)++((⟨#[97+c]⟩:Str)++⟨#[97+e]⟩)++cj bs (some y) none=z at zc zl ez ⊢;have en:nmN (cj bs none (some y)) (cj bs (some y) none) sh j=if inV (.str z) i3=true then z++Str.ofString "x" else z:=by unfold nmN;rw[ez]
  obtain ⟨nx,nn⟩:=Le zl.1 zl.2 zc;refine cf (λσ' H'=>∃u,σ'=[some (.ref h),some (.int 24),some (.str (Str.ofString "abcdefghijklmnopqrstuvwxyz")),some (.str bs),some (.int y),some (.int sh),some (.ref nl),some (.int (0+(j:Int))),some (.str ((⟨#[97+c]⟩:Str)++⟨#[97+e]⟩)),some (.str u)]∧ak h H H'∧aw H' h 10∧H' nl=some (.lst (((abf j).map (nmN (cj bs none (some y)) (cj bs (some y) none) sh)).map V.str))∧u=nmN (cj bs none (some y)) (cj bs (some y) none) sh j∧ax u=true) ?_ ?_
  ·push_cast [rIn];refine ⟨by show (9:Nat)≤sizeLine;decide,λp hp=>⟨_,.inr (SqT.of aa),rfl,rfl,?_⟩⟩;have s6:=s5.trans (ak.of (ae hp (.tup i3)));refine bc (λc'=>⟨by rw[show (Str.ofString "x").length=1 by decide+kernel];omega,s6,hh5.same (ae hp _),ae hp _ _ _ hl5,by rw[en,if_pos (show inV (.str z) i3=true from c')],nx c'⟩) λc'=>⟨s6,hh5.same (ae hp _),ae hp _ _ _ hl5,by rw[en,if_neg (show ¬inV (.str z) i3=true from c')],nn (Bool.eq_false_iff.mpr c')⟩
  ·rintro σ' H6 ⟨u,rfl,s6,hh6,hl6,eu,hu⟩;push_cast [and_true];refine fb hl6 (by rw[aa2,aa2,acm];omega) ⟨s6.upd HL _,mi hh6 nh,by rw[aa,acz,aad,aad,eu];rfl,λi hi=>?_⟩;by_cases ei:i=j
   ·rw[ei,←eu];exact hu
   ·exact un i (by omega)
 ·rintro σ H5 ⟨v7,v8,v9,rfl,s5,hh5,hl5,un⟩;push_cast [and_true];refine q nl _ H5 s5 HL hl5 (by rw[aa2,acm];rfl) (Jf _ _ _) (λz hz=>?_) hh5;obtain ⟨i,hi,rfl⟩:=List.mem_map.mp hz;exact un i (List.mem_range.mp hi)
noncomputable abbrev o8:Stmt:=top 55
theorem Iu:au ["hand","names","style","some","price"] ["hand","names"] (af o8):=⟨rfl,rfl,rfl,by decide+kernel,rfl,by decide+kernel,by decide+kernel⟩
theorem K5 (G:Gs w K mg κ) (h_law_any_deed:Has P w K mg base k "_law_any_deed" ["hand"] om) (h_law_any_word:Has P w K mg base k "_law_any_word" ["hand","names"] vp) (h_law_draw:Has P w K mg base k "_law_draw" ["hand","limit"] di) (D:Def K mg "_law_row" o8 ["hand","names"]):Has P w K mg base (k+1) "_law_row" ["hand","names"] Cb:=by
 refine D.has Iu (λvs H Q E h=>?_) (λf cdv A outer s H vs Q E hr h=>?_)
 ·obtain ⟨_,_,_,rfl,_,_,_,_,_⟩:=h;rfl
 have nd:=Iu.nd;have hu:=br hr;have hu0:=aa9 hu;obtain ⟨h,l,zs,rfl,hh,n1,n2,n3,q⟩:=h;have m_range:=G.m_range;have m_tuple:=G.m_tuple;refine ⟨_,(A9 (AH 2 nd (by first | exact aa1 rfl | exact aa0 rfl) (AC h_law_draw hr (A1 (A0 0 (by first | exact aa1 rfl | exact aa0 (aa1 rfl) | exact aa0 (aa0 rfl))) (A1 (A6 0) (A2 0)))) (by first | exact .inl rfl | exact .inr rfl | assumption)) (A9 (AJ (AI (AL 0) (A0 2 (by first | exact aa1 rfl | exact aa0 (aa1 rfl) | exact aa0 (aa0 rfl))) (A6 0) (AE 0)) (AA (AF (AV (A1 (A7 0) (A1 (AB (AG 0) (A0 1 (by first | exact aa1 rfl | exact aa0 (aa1 rfl) | exact aa0 (aa0 rfl))) (AC h_law_draw hr (A1 (A0 0 (by first | exact aa1 rfl | exact aa0 (aa1 rfl) | exact aa0 (aa0 rfl))) (A1 (A6 0) (A2 0))))) (A2 0)))))) (AK 0)) (A9 (AJ (AI (@ip _) (A0 2 (by first | exact aa1 rfl | exact aa0 (aa1 rfl) | exact aa0 (aa0 rfl))) (A6 0) (AE 0)) (A9 (C1 3 nd (AY ["j"] ["hand","names"] [0,1] (aay rfl (aay rfl trivial)) (aay (aay rfl (aay rfl rfl)) (aay (aay rfl (aay rfl rfl)) trivial))) (C0 m_range (A1 (AD (AO 0) (A6 0) (AC h_law_draw hr (A1 (A0 0 (by first | exact aa1 rfl | exact aa0 (aa1 rfl) | exact aa0 (aa0 rfl))) (A1 (A6 0) (A2 0))))) (A2 0))) (λ_ _ _=>(AZ 0 (show aba (["j","hand","names"]:List Str) by decide+kernel) (by first | exact .inl rfl | exact .inr rfl | assumption))) (λ_ _ _=>(@lb _)) (λ_ _ _=>(AC h_law_any_word hr (A1 (A0 1 (by first | exact aa1 rfl | exact aa0 (aa1 rfl) | exact aa0 (aa0 rfl))) (A1 (A0 2 (by first | exact aa1 rfl | exact aa0 (aa1 rfl) | exact aa0 (aa0 rfl))) (A2 0))))) (by first | exact .inl rfl | exact .inr rfl | assumption)) (A9 (AH 4 nd (by first | exact aa1 rfl | exact aa0 rfl) (AB (AG 0) (AN (A1 (AD (AO 0) (A6 0) (AC h_law_draw hr (A1 (A0 0 (by first | exact aa1 rfl | exact aa0 (aa1 rfl) | exact aa0 (aa0 rfl))) (A1 (A6 0) (A2 0))))) (A1 (AD (AO 0) (A6 0) (AC h_law_draw hr (A1 (A0 0 (by first | exact aa1 rfl | exact aa0 (aa1 rfl) | exact aa0 (aa0 rfl))) (A1 (A6 0) (A2 0))))) (A1 (A6 0) (A2 0))))) (AC h_law_draw hr (A1 (A0 0 (by first | exact aa1 rfl | exact aa0 (aa1 rfl) | exact aa0 (aa0 rfl))) (A1 (A6 0) (A2 0))))) (by first | exact .inl rfl | exact .inr rfl | assumption)) (AA (AF (AD (@xh _) (AV (A1 (A7 0) (A1 (AB (AG 0) (A0 1 (by first | exact aa1 rfl | exact aa0 (aa1 rfl) | exact aa0 (aa0 rfl))) (AD (AO 0) (A6 0) (AC h_law_draw hr (A1 (A0 0 (by first | exact aa1 rfl | exact aa0 (aa1 rfl) | exact aa0 (aa0 rfl))) (A1 (A6 0) (A2 0)))))) (A1 (AB (AG 0) (A0 1 (by first | exact aa1 rfl | exact aa0 (aa1 rfl) | exact aa0 (aa0 rfl))) (AC h_law_draw hr (A1 (A0 0 (by first | exact aa1 rfl | exact aa0 (aa1 rfl) | exact aa0 (aa0 rfl))) (A1 (A6 0) (A2 0))))) (A1 (A0 4 (by first | exact aa1 rfl | exact aa0 (aa1 rfl) | exact aa0 (aa0 rfl))) (A2 0)))))) (B5 (C2 0) m_tuple mf (A1 (A0 3 (by first | exact aa1 rfl | exact aa0 (aa1 rfl) | exact aa0 (aa0 rfl))) (A2 0)))))))) (AK 0)) (A9 (AJ (AI (AL 0) (A0 2 (by first | exact aa1 rfl | exact aa0 (aa1 rfl) | exact aa0 (aa0 rfl))) (A6 0) (AE 0)) (AA (AF (AV (A1 (A7 0) (A2 0))))) (AK 0)) (AA (AF (AD (@xh _) (AV (A1 (A7 0) (A1 (AC h_law_draw hr (A1 (A0 0 (by first | exact aa1 rfl | exact aa0 (aa1 rfl) | exact aa0 (aa0 rfl))) (A1 (A6 0) (A2 0)))) (A2 0)))) (AC h_law_any_deed hr (A1 (A0 0 (by first | exact aa1 rfl | exact aa0 (aa1 rfl) | exact aa0 (aa0 rfl))) (A2 0)))))))))),?_⟩;rw[show start ["hand","names","style","some","price"] [.ref h,.ref l]=[some (.ref h),some (.ref l),none,none,none] from rfl];clear hu hu0 nd hr;push_cast [and_true];have sz:=sizeLine_eq;have nl:=hh.ne n1 (by rw[aa2];omega);have frH:∀{t:Addr} {H4:Hp} {k:Nat},aw H4 h k→ak h H H4→H4 t=none→H t=none:=λa s ht=>by obtain ⟨_,_,_,h1,_⟩:=a;exact s.free h1 ht
 have nm:∀{x:Int} {H4:Hp},ak h H H4→0≤x→x < 20→∃z,(ax z=true∧(8≤x→z∈zs.drop 8))∧∀Q:VK,Q (.str z) H4→sm K (.ref l) (.int x) H4 Q:=λs x0 x1=>by
  obtain ⟨z,hz,hm⟩:=vq n2 x0 x1;exact ⟨z,⟨n3 z hm,λh8=>Ma h8 hz⟩,λQ hQ=>ah (s _ _ nl n1) hz hQ⟩
 refine az hh (by omega) (by decide) (by decide+kernel) λx H1 s1 hh1 x0 x8=>⟨rfl,bc (λc=>az hh1 (by omega) (by decide) (by decide+kernel) λy H2 s2 hh2 y0 y1=>?_) λc=>bc (λc=>?_) λc=>⟨rfl,bc (λc=>?_) λc=>?_⟩⟩
 ·obtain ⟨z,hz,hq⟩:=nm (s1.trans s2) y0 y1;refine hq _ ⟨by show (2:Nat)≤sizeLine;decide,λt ht=>?_⟩;exact q t _ _ ((s1.trans s2).trans (ak.of (ae ht _))) aa (.inl ⟨z,rfl,hz.1⟩) (λn k p ws e=>absurd (ab5 e).1 (by decide+kernel))
 ·refine az hh1 (by omega) (by decide) (by decide+kernel) λy H2 s2 hh2 y0 y1=>⟨by omega,by omega,λD hD=>?_⟩;have S2:=s1.trans s2;have HD:=frH hh2 S2 hD;have nD:D≠h:=λe=>by obtain ⟨a,b,c,h1,_⟩:=hh2;rw[e,h1] at hD;cases hD
  refine Dd (λi ys H3=>ys.length=i∧(∀v∈ys,shW v)∧ak h H H3∧aw H3 h (2+3*i)) (by omega) ⟨rfl,λ_ h=>(nomatch h),S2.upd HD _,(hh2.same (ae hD _)).le (by omega)⟩ (λi ys H3 G' K' hi hP hl hD3 hG hK=>?_) λys H3 hP hl hD3=>?_
  ·obtain ⟨y1',y2,s3,hh3⟩:=hP;push_cast [and_true];refine ⟨h,l,_,rfl,hh3,⟨zs,s3 _ _ nl n1,n2,n3⟩,by omega,λv H4 s4 hh4 hv=>hK _ _ (s4 _ _ nD hD3) ⟨by rw[aa4,y1'];rfl,λu hu=>?_,(s3.trans s4).upd HD _,?_⟩⟩
   ·rcases List.mem_append.mp hu with m | m
    ·exact y2 u m
    ·rw[List.mem_singleton.mp m];exact hv
   ·obtain ⟨a,b,c',h1,r⟩:=hh4;exact aw.le ⟨a,b,c',by rw[ai nD.symm];exact h1,r⟩ (by omega)
  obtain ⟨yl,yw,s3,hh3⟩:=hP;refine az hh3 (by omega) (by decide) (by decide+kernel) λp1 H4 s4 hh4 p10 p11=>az hh4 (by omega) (by decide) (by decide+kernel) λp2 H5 s5 hh5 p20 p21=>⟨by show (3:Nat)≤sizeLine;decide,λpl hpl=>?_⟩;have npl:pl≠h:=λe=>by obtain ⟨a,b,c,h1,_⟩:=hh5;rw[e,h1] at hpl;cases hpl
  refine az (hh5.same (ae hpl _)) (by omega) (by decide) (by decide+kernel) λp3 H6 s6 hh6 p30 p31=>?_;obtain ⟨pv,hpv,hpm⟩:=gg [V.int (1+p1),V.int (1+p2),V.int 999999] p3 p30 (by show p3 < 3;omega);obtain ⟨pr,rfl,pr1,pr2⟩:∃pr:Int,pv=.int pr∧1≤pr∧pr≤999999:=by
   simp only[aav,aar,or_false] at hpm;rcases hpm with rfl | rfl | rfl
   ·exact ⟨_,rfl,by omega,by omega⟩
   ·exact ⟨_,rfl,by omega,by omega⟩
   ·exact ⟨_,rfl,by omega,by omega⟩
  have S6:=s4.trans (s5.trans ((ak.of (ae hpl (.lst [V.int (1+p1),V.int (1+p2),V.int 999999]))).trans s6));refine ah (s6 _ _ npl aa) hpv (az hh6 (by omega) (by decide) (by decide+kernel) λa1 H7 s7 hh7 a10 a11=>?_);obtain ⟨z1,hz1,hq1⟩:=nm (x:=8+a1) (s3.trans (S6.trans s7)) (by omega) (by omega);refine hq1 _ (az hh7 (by omega) (by decide) (by decide+kernel) λa2 H8 s8 hh8 a20 a21=>?_);have S8:=S6.trans (s7.trans s8);obtain ⟨z2,hz2,hq2⟩:=nm (s3.trans S8) a20 a21;refine hq2 _ ⟨by show (4:Nat)≤sizeLine;decide,λt1 ht1=>⟨_,.inl ⟨SqL.of (ae ht1 _ _ _ (S8 _ _ nD hD3)),λt2 ht2=>?_⟩⟩⟩;have yl:ys.length=1+y:=by omega
  refine qi (ae ht2 _ _ _ aa) aa (by simp only[aa8,abg];omega) λt H9 s9 ht=>?_;have S9:=S8.trans ((ak.of (ae ht1 _)).trans ((ak.of (ae ht2 _)).trans (ak.of s9)));exact q t _ _ (s3.trans S9) ht (.inr (.inl ⟨z1,z2,pr,ys,rfl,hz1.1,hz2.1,pr1,pr2,by omega,by omega,yw⟩)) (λn k p ws e=>by cases e;exact hz1.2 (by omega))
 ·refine ⟨by show (1:Nat)≤sizeLine;decide,λt ht=>?_⟩;exact q t _ _ (s1.trans (ak.of (ae ht _))) aa (.inr (.inr (.inl rfl))) (λn k p ws e=>absurd (ab5 e).1 (by decide+kernel))
 ·refine az hh1 (by omega) (by decide) (by decide+kernel) λy H2 s2 hh2 y0 y1=>⟨by show (2:Nat)≤sizeLine;decide,λt1 ht1=>⟨h,_,rfl,hh2.same (ae ht1 _),by omega,λt2 d H3 s3 hf2 ht2 _ hd=>?_⟩⟩;have n1':t1≠h:=λe=>by obtain ⟨a,b,c,h1,_⟩:=hh2;rw[e,h1] at ht1;cases ht1
  have dl:=dw hd;refine qi (s3 _ _ n1' aa) ht2 (by simp only[aa8,abg];omega) λt H4 s4 ht=>?_;exact q t _ _ ((s1.trans s2).trans ((ak.of (ae ht1 _)).trans (s3.trans (ak.of s4)))) ht (.inr (.inr (.inr ⟨y,d,rfl,hd,y0,y1⟩))) (λn k p ws e=>absurd (ab5 e).1 (by decide+kernel))
noncomputable abbrev fe:Stmt:=top 57
theorem u6:au ["rows","rules","found","many","row","name"] ["rows"] (af fe):=⟨rfl,rfl,rfl,by decide+kernel,rfl,by decide+kernel,by decide+kernel⟩
theorem Cu (G:Gs w K mg κ) (D:Def K mg "_law_settled" fe ["rows"]):Has P w K mg base (k+1) "_law_settled" ["rows"] ki:=by
 refine D.has u6 (λvs H Q E h=>?_) (λf cdv A outer s H vs Q E hr h=>?_)
 ·obtain ⟨_,_,_,rfl,_,_,_,_,_⟩:=h;rfl
 have nd:=u6.nd;have hu:=br hr;have hu0:=aa9 hu;obtain ⟨l,raws,R,rfl,hl,hw,hRi,hn,q⟩:=h;have m_len:=G.m_len;refine ⟨_,(A9 (C1 1 nd (AY ["row"] [] [] trivial trivial) (BC (A0 0 (by first | exact aa1 rfl | exact aa0 (aa1 rfl) | exact aa0 (aa0 rfl)))) (λ_ _ _=>(AZ 0 (show aba (["row"]:List Str) by decide+kernel) (by first | exact .inl rfl | exact .inr rfl | assumption))) (λ_ _ _=>(@pif1 _ _ _ (AI (AL 0) (AB (@Dk _ K rfl) (A0 0 (by first | exact aa1 rfl | exact aa0 (aa1 rfl) | exact aa0 (aa0 rfl))) (A6 0)) (A7 0) (AE 0)))) (λ_ _ _=>(AB (@Dk _ K rfl) (A0 0 (by first | exact aa1 rfl | exact aa0 (aa1 rfl) | exact aa0 (aa0 rfl))) (A6 0))) (by first | exact .inl rfl | exact .inr rfl | assumption)) (A9 (AH 2 nd (by first | exact aa1 rfl | exact aa0 rfl) (AN (A2 0)) (by first | exact .inl rfl | exact .inr rfl | assumption)) (A9 (AH 3 nd (by first | exact aa1 rfl | exact aa0 rfl) (@zq _ _) (by first | exact .inl rfl | exact .inr rfl | assumption)) (A9 (BX (BC (A0 0 (by first | exact aa1 rfl | exact aa0 (aa1 rfl) | exact aa0 (aa0 rfl)))) (B6 4 nd (by first | exact aa1 rfl | exact aa0 rfl) (by first | exact .inl rfl | exact .inr rfl | assumption)) (BD (AJ (AW (BO (AI (AL 0) (AB (@ig _) (A0 4 (by first | exact aa1 rfl | exact aa0 (aa1 rfl) | exact aa0 (aa0 rfl))) (A6 0)) (A7 0) (AE 0)) (BR (AI (AL 0) (AM (AU 0) m_len b8 (A1 (A0 1 (by first | exact aa1 rfl | exact aa0 (aa1 rfl) | exact aa0 (aa0 rfl))) (A2 0))) (A6 0) (AE 0))))) (AA (AH 4 nd (by first | exact aa1 rfl | exact aa0 rfl) (AV (A1 (A7 0) (A2 0))) (by first | exact .inl rfl | exact .inr rfl | assumption))) (AK 0)) (BD (AJ (AI (AL 0) (AB (@ig _) (A0 4 (by first | exact aa1 rfl | exact aa0 (aa1 rfl) | exact aa0 (aa0 rfl))) (A6 0)) (A7 0) (AE 0)) (A9 (AH 5 nd (by first | exact aa1 rfl | exact aa0 rfl) (AB (AG 0) (A0 1 (by first | exact aa1 rfl | exact aa0 (aa1 rfl) | exact aa0 (aa0 rfl))) (AD (BL 0) (AB (@ig _) (A0 4 (by first | exact aa1 rfl | exact aa0 (aa1 rfl) | exact aa0 (aa0 rfl))) (A6 0)) (AM (AU 0) m_len b8 (A1 (A0 1 (by first | exact aa1 rfl | exact aa0 (aa1 rfl) | exact aa0 (aa0 rfl))) (A2 0))))) (by first | exact .inl rfl | exact .inr rfl | assumption)) (A9 (CC hu (A0 3 (by first | exact aa1 rfl | exact aa0 (aa1 rfl) | exact aa0 (aa0 rfl))) (A0 5 (by first | exact aa1 rfl | exact aa0 (aa1 rfl) | exact aa0 (aa0 rfl))) (AD (AO 0) (AQ PySem.F.plainAttrs_dict PySem.F.slot_dict_get PySem.F.type_dict_get (@Hb _ hu) (A0 3 (by first | exact aa1 rfl | exact aa0 (aa1 rfl) | exact aa0 (aa0 rfl))) (A1 (A0 5 (by first | exact aa1 rfl | exact aa0 (aa1 rfl) | exact aa0 (aa0 rfl))) (A1 (A6 0) (A2 0)))) (A6 0))) (A9 (AH 4 nd (by first | exact aa1 rfl | exact aa0 rfl) (AD (@xh _) (AV (A1 (A7 0) (A1 (A0 5 (by first | exact aa1 rfl | exact aa0 (aa1 rfl) | exact aa0 (aa0 rfl))) (A2 0)))) (AR (@Ms _) (A0 4 (by first | exact aa1 rfl | exact aa0 (aa1 rfl) | exact aa0 (aa0 rfl))) (AS (A6 0)) (AT 0))) (by first | exact .inl rfl | exact .inr rfl | assumption)) (AA (AJ (AI (@g8 _) (C3 hu (A0 3 (by first | exact aa1 rfl | exact aa0 (aa1 rfl) | exact aa0 (aa0 rfl))) (A0 5 (by first | exact aa1 rfl | exact aa0 (aa1 rfl) | exact aa0 (aa0 rfl)))) (A6 0) (AE 0)) (AA (AH 4 nd (by first | exact aa1 rfl | exact aa0 rfl) (AV (A1 (A7 0) (A2 0))) (by first | exact .inl rfl | exact .inr rfl | assumption))) (AK 0)))))) (AK 0)) (AA (BG (AQ PySem.F.plainAttrs_list PySem.F.slot_list_append PySem.F.type_list_append (BQ 0) (A0 2 (by first | exact aa1 rfl | exact aa0 (aa1 rfl) | exact aa0 (aa0 rfl))) (A1 (A0 4 (by first | exact aa1 rfl | exact aa0 (aa1 rfl) | exact aa0 (aa0 rfl))) (A2 0)))))))) (AA (AF (A0 2 (by first | exact aa1 rfl | exact aa0 (aa1 rfl) | exact aa0 (aa0 rfl))))))))),?_⟩;rw[show start ["rows","rules","found","many","row","name"] [.ref l]=[some (.ref l),none,none,none,none,none] from rfl];clear hu hu0 nd hr;push_cast [and_true];have sz:=sizeLine_eq;obtain ⟨qs,rfl,qok⟩:=Ez hw;obtain ⟨ps,p1,p2⟩:=hl;rw[aa2] at hn;have p2l:ps.length=qs.length:=by rw[p2.1,aa2]
 refine ⟨⟨_,SqL.of p1⟩,λrl hrl=>gy (λi ys=>ys=(bj (qs.take i)).map V.str) (SqL.of p1) (by rw[aa2];omega) hrl rfl (λi x ys H1 G' K' hx hP hl2 hS hG hK=>?_) λys H1 hP hl2 hS hD2=>⟨ab7 _,λfl hfl md hmd=>?_⟩⟩
 ·-- the rules' names
  obtain ⟨t,ht,rfl⟩:=d7 hx;have hi:i < qs.length:=by
   have:=(List.getElem?_eq_some_iff.mp ht).1;omega
  have hqi:qs[i]?=some qs[i]:=aa5 hi;have et:qs.take (i+1)=qs.take i++[qs[i]]:=by rw[aax,hqi];rfl
  have ht0:H t=some (.tup qs[i].vs):=p2.2 i t _ ht (by rw[aag,hqi];rfl);have ok:=qok _ (aaw hi);generalize qs[i]=q0 at et ht0 ok;have ht1:=hS _ _ ht0;push_cast [and_true];cases q0 with
  | dn k d=>exact bq ht1 (ay (j:=0) rfl) ⟨rfl,ifN (show ¬V.str ("does":Str)=V.str "rule" by decide+kernel) (hG _ (ao.refl _) (by rw[hP,et,rr_dn]))⟩
  | it r=>
   cases r with
   | rule n k p ws=>exact bq ht1 (ay (j:=0) rfl) ⟨rfl,ifY (show V.str ("rule":Str)=V.str "rule" from rfl) (bq ht1 (ay (j:=1) rfl) (hK _ _ (ao.refl _) (by rw[hP,et,K0,aad];rfl)))⟩
   | kind n=>exact bq ht1 (ay (j:=0) rfl) ⟨rfl,ifN (show ¬V.str ("kind":Str)=V.str "rule" by decide+kernel) (hG _ (ao.refl _) (by rw[hP,et,Lj]))⟩
   | none=>exact bq ht1 (ay (j:=0) rfl) ⟨rfl,ifN (show ¬V.str ("":Str)=V.str "rule" by decide+kernel) (hG _ (ao.refl _) (by rw[hP,et,Me]))⟩
   | does n d=>exact absurd rfl (ok.2 n d)
 rw[aa2,p2l,aat] at hP;subst hP;have HF:H fl=none:=hS.free hfl;have HM:H md=none:=(hS.trans (ae hfl (.lst []))).free hmd;have HR:H rl=none:=hrl;have nfr:fl≠rl:=(aq hD2 hfl).symm;have nmr:md≠rl:=(aq (ae hfl (.lst []) _ _ hD2) hmd).symm;have nmf:md≠fl:=(aq aa hmd).symm;have nl:=rr_len qs;obtain ⟨B,eB⟩:∃B:Nat→List Addr→List Rw→Hp→Prop,∀i fs rs H',B i fs rs H'↔(ao H H'∧H' rl=some (.lst ((bj qs).map V.str))∧H' fl=some (.lst (fs.map V.ref))∧b9 H' fs (rs.map Rw.vs)∧j5 H' md i):=⟨_,λ_ _ _ _=>acu⟩;have Bs:∀{i fs rs H1 H2},B i fs rs H1→ao H1 H2→B i fs rs H2:=λ{i fs rs H1 H2} b s=>by
  obtain ⟨a1,a2,a3,a4,a5⟩:=(eB _ _ _ _).mp b;exact (eB _ _ _ _).mpr ⟨a1.trans s,s _ _ a2,s _ _ a3,a4.keep (Tk.of s),a5.same s⟩
 refine ⟨⟨_,SqL.of (((ae hfl (.lst [])).trans (ae hmd (.dK []))) _ _ (hS _ _ p1))⟩,gn (xs:=ps.map V.ref) (λi σ H'=>∃(fs:List Addr) (rs:List Rw) (v4 v5:Option V),σ=[some (.ref l),some (.ref rl),some (.ref fl),some (.ref md),v4,v5]∧B i fs rs H'∧rs.length=i∧aj rs=bj (qs.take i)∧(∀r∈rs,r.ok)∧∀n d,Rw.does n d∈rs→n∈bj qs) ?_ (λi σ H' _ h=>?_) ?_ ?_⟩
 ·refine ⟨[],[],none,none,rfl,(eB _ _ _ _).mpr ⟨hS.trans ((ae hfl _).trans (ae hmd _)),ae hmd _ _ _ (ae hfl _ _ _ hD2),ae hmd _ _ _ aa,b9.nil _,[],aa,aa3 _,λ_ _ h=>by cases h⟩,rfl,rfl,(λ_ h=>nomatch h),λ_ _ h=>nomatch h⟩
 ·obtain ⟨_,_,_,_,_,b,_⟩:=h;exact SqL.of (((eB _ _ _ _).mp b).1 _ _ p1)
 ·clear hD2 hfl hmd hS H1 hl2;rintro i x σ H1 hx ⟨fs,rs,v4,v5,rfl,b1,rl1,rr1,ok1,ds1⟩;obtain ⟨t,ht,rfl⟩:=d7 hx;have hi:i < qs.length:=by
   have:=(List.getElem?_eq_some_iff.mp ht).1;omega
  have hqi:qs[i]?=some qs[i]:=aa5 hi;have et:qs.take (i+1)=qs.take i++[qs[i]]:=by rw[aax,hqi];rfl
  have ht0:H t=some (.tup qs[i].vs):=p2.2 i t _ ht (by rw[aag,hqi];rfl);have ok:=qok _ (aaw hi);generalize qs[i]=q0 at et ht0 ok;have ht1:H1 t=some (.tup q0.vs):=((eB _ _ _ _).mp b1).1 _ _ ht0;obtain ⟨M1,eM1⟩:∃M1:L2.St→Hp→Prop,∀σ H',M1 σ H'↔∃t' q',σ=[some (.ref l),some (.ref rl),some (.ref fl),some (.ref md),some (.ref t'),v5]∧H' t'=some (.tup (Rr.vs q'))∧Rr.ok q'∧bj [q']=bj [q0]∧((∃k d,q'=.dn k d)→bj qs≠[])∧B i fs rs H':=⟨_,λ_ _=>acu⟩;obtain ⟨M2,eM2⟩:∃M2:L2.St→Hp→Prop,∀σ H',M2 σ H'↔∃t' r v5,σ=[some (.ref l),some (.ref rl),some (.ref fl),some (.ref md),some (.ref t'),v5]∧H' t'=some (.tup (Rw.vs r))∧Rw.ok r∧aj [r]=bj [q0]∧(∀n d,r=.does n d→n∈bj qs)∧B (i+1) fs rs H':=⟨_,λ_ _=>acu⟩;refine cf M1 ?_ λσ H2 hm=>cf M2 ?_ λσ2 H3 hm2=>?_
  ·push_cast [and_true];cases q0 with
   | it r=>
    have out:M1 [some (.ref l),some (.ref rl),some (.ref fl),some (.ref md),some (.ref t),v5] H1:=(eM1 _ _).mpr ⟨t,_,rfl,ht1,ok,rfl,(λ⟨_,_,e⟩=>by cases e),b1⟩;cases r with
    | rule n k p ws=>exact bq ht1 (ay (j:=0) rfl) ⟨rfl,ifN (show ¬V.str ("rule":Str)=V.str "does" by decide+kernel) out⟩
    | kind n=>exact bq ht1 (ay (j:=0) rfl) ⟨rfl,ifN (show ¬V.str ("kind":Str)=V.str "does" by decide+kernel) out⟩
    | none=>exact bq ht1 (ay (j:=0) rfl) ⟨rfl,ifN (show ¬V.str ("":Str)=V.str "does" by decide+kernel) out⟩
    | does n d=>exact absurd rfl (ok.2 n d)
   | dn k d=>
    refine bq ht1 (ay (j:=0) rfl) ⟨rfl,ifY (show V.str ("does":Str)=V.str "does" from rfl) ⟨_,.inl (SqL.of ((eB _ _ _ _).mp b1).2.1),rfl,?_⟩⟩;rw[aa2];refine bc (λc=>⟨by show (1:Nat)≤sizeLine;decide,λp hp=>(eM1 _ _).mpr ⟨p,.it .none,rfl,aa,⟨trivial,λ_ _ e=>by cases e⟩,rfl,(λ⟨_,_,e⟩=>by cases e),Bs b1 (ae hp _)⟩⟩) λc=>(eM1 _ _).mpr ⟨t,_,rfl,ht1,ok,rfl,(λ_ e=>c (by rw[e];rfl)),b1⟩
  ·obtain ⟨t',q',rfl,ht2,ok2,e2,nd2,b2⟩:=(eM1 _ _).mp hm;push_cast [and_true];obtain ⟨a1,a2,a3,a4,a5⟩:=(eB _ _ _ _).mp b2;cases q' with
   | it r=>
    have er:aj [r]=bj [Rr.it r]:=by cases r <;> rfl
    have out:M2 [some (.ref l),some (.ref rl),some (.ref fl),some (.ref md),some (.ref t'),v5] H2:=(eM2 _ _).mpr ⟨t',r,v5,rfl,ht2,ok2.1,er.trans e2,(λn d e=>absurd e (ok2.2 n d)),(eB _ _ _ _).mpr ⟨a1,a2,a3,a4,a5.le (ac2 _)⟩⟩;cases r with
    | rule n k p ws=>exact bq ht2 (ay (j:=0) rfl) ⟨rfl,ifN (show ¬V.str ("rule":Str)=V.str "does" by decide+kernel) out⟩
    | kind n=>exact bq ht2 (ay (j:=0) rfl) ⟨rfl,ifN (show ¬V.str ("kind":Str)=V.str "does" by decide+kernel) out⟩
    | none=>exact bq ht2 (ay (j:=0) rfl) ⟨rfl,ifN (show ¬V.str ("":Str)=V.str "does" by decide+kernel) out⟩
    | does n d=>exact absurd rfl (ok2.2 n d)
   | dn k d=>
    have ne:=nd2 ⟨k,d,rfl⟩;have pos:0 < (bj qs).length:=List.length_pos_iff.mpr ne;obtain ⟨m,hm1,hm2⟩:=vq (zs:=bj qs) (k:=k % ((bj qs).length:Int)) rfl (abh _ (by omega)) (abq _ (by omega));obtain ⟨kvs,k1,k2,k3⟩:=id a5;refine bq ht2 (ay (j:=0) rfl) ⟨rfl,ifY (show V.str ("does":Str)=V.str "does" from rfl) (bq ht2 (ay (j:=1) rfl) ⟨_,.inl (SqL.of a2),?_⟩)⟩;rw[aa2];refine ⟨by omega,ah a2 hm1 ⟨Jn k1,?_⟩⟩;obtain ⟨c,hc⟩:∃c:Int,(bz kvs (Sum.inr m)).getD (.int 0)=.int c:=by
     cases e:bz kvs (Sum.inr m) with
     | none=>exact ⟨0,rfl⟩
     | some v=>obtain ⟨c,rfl⟩:=k3 m v e;exact ⟨c,rfl⟩
    refine ⟨md,_,_,_,rfl,rfl,jw.k (k:=Sum.inr m) k1,?_⟩;rw[hc];have nt:t'≠md:=ui ht2 k1 (by intro h;cases h);have A5:=a5.put (z:=m) (i:=c+1) k1;have tk:Tk H2 (upd H2 md (.dK (putK kvs (Sum.inr m) (.int (c+1))))):=Tk.upd (Tk.refl _) λxs e=>by rw[k1] at e;cases e
    have B4:B (i+1) fs rs (upd H2 md (.dK (putK kvs (Sum.inr m) (.int (c+1))))):=(eB _ _ _ _).mpr ⟨a1.upd HM _,by rw[ai nmr.symm];exact a2,by rw[ai nmf.symm];exact a3,a4.keep tk,A5⟩;refine ⟨_,zf.k (k:=Sum.inr m) k1 (by omega),by show (2:Nat)≤sizeLine;decide,λp hp=>?_⟩;have ht4:=tk _ _ ht2;have hd4:upd H2 md (.dK (putK kvs (Sum.inr m) (.int (c+1)))) md=some (.dK (putK kvs (Sum.inr m) (.int (c+1)))):=aa;generalize upd H2 md (.dK (putK kvs (Sum.inr m) (.int (c+1))))=H4 at B4 ht4 hd4 hp ⊢;have s5:=ae hp (.tup [V.str (Str.ofString "does"),V.str m]);have dl:=dw ok2.1;refine L6 (s5 _ _ ht4) λy H6 s6 hy=>?_;rw[show ck (Rr.dn k d).vs (some 2) none=d from zt (dsV::.int k::d) 2 0 (by show 2+0≤d.length+2;omega)] at hy;refine qi (s6 _ _ aa) hy (by simp only[aa8,abg];omega) λt3 H7 s7 ht3=>?_;have S7:=s5.trans (s6.trans s7);have gd:=jw.k (k:=Sum.inr m) (S7 _ _ hd4);rw[gv,if_pos rfl] at gd;refine ⟨_,gd,bc (λ_=>⟨by show (1:Nat)≤sizeLine;decide,λp8 hp8=>(eM2 _ _).mpr ⟨p8,.none,_,rfl,aa,trivial,e2,(λ_ _ e=>by cases e),Bs B4 (S7.trans (ae hp8 _))⟩⟩) λ_=>(eM2 _ _).mpr ⟨t3,.does m d,_,rfl,ht3,⟨?_,ok2.1⟩,e2,(λn d' e=>by cases e;exact hm2),Bs B4 S7⟩⟩;obtain ⟨q1,hq1,e1⟩:=List.mem_filterMap.mp hm2;cases q1 with
    | dn _ _=>cases e1
    | it r1=>
     cases r1 with
     | rule n' k' p' ws'=>
      cases e1
      exact (qok _ hq1).1.1
     | _=>cases e1
  ·obtain ⟨t',r,v5',rfl,ht3,ok3,e3,nd3,b3⟩:=(eM2 _ _).mp hm2;push_cast [and_true];obtain ⟨a1,a2,a3,a4,a5⟩:=(eB _ _ _ _).mp b3;have fl2:fs.length=rs.length:=by rw[a4.1,aa2]
   have tk:Tk H3 (upd H3 fl (.lst (fs.map V.ref++[.ref t']))):=Tk.upd (Tk.refl _) λxs e=>by rw[a3] at e;cases e
   refine fb a3 (by rw[aa2];omega) ⟨fs++[t'],rs++[r],(eB _ _ _ _).mpr ⟨a1.upd HF _,by rw[ai nfr.symm];exact a2,by rw[aa,aad];rfl,?_,?_⟩,by rw[aa4,rl1];rfl,?_,?_,?_⟩
   ·rw[aad];exact (a4.keep tk).snoc (tk _ _ ht3)
   ·obtain ⟨kvs,k1,k2⟩:=a5;exact ⟨kvs,by rw[ai nmf];exact k1,k2⟩
   ·rw[et,show aj (rs++[r])=aj rs++aj [r] from aaj,show bj (qs.take i++[q0])=bj (qs.take i)++bj [q0] from aaj,rr1,e3]
   ·exact λr' hr'=>(List.mem_append.mp hr').elim (ok1 r') λh=>by rw[List.mem_singleton.mp h];exact ok3
   ·exact λn d hr'=>(List.mem_append.mp hr').elim (ds1 n d) λh=>nd3 n d (List.mem_singleton.mp h).symm
 ·rintro σ H1 ⟨fs,rs,v4,v5,rfl,b1,rl1,rr1,ok1,ds1⟩;rw[aa2,p2l] at rl1 rr1;rw[aat] at rr1;obtain ⟨a1,a2,a3,a4,a5⟩:=(eB _ _ _ _).mp b1;push_cast [and_true];exact q fl rs H1 a1 ⟨fs,a3,a4⟩ ⟨ok1,by omega,λn d h=>by rw[rr1];exact ds1 n d h⟩ (λn hn=>by rw[rr1] at hn;exact rr_in hRi hn)
noncomputable abbrev kf:Stmt:=top 56
theorem Cw:au ["script","names","rows","size","counts","k","cell","row","cost"] ["script","names"] (af kf):=⟨rfl,rfl,rfl,by decide+kernel,rfl,by decide+kernel,by decide+kernel⟩
theorem Jq (G:Gs w K mg κ) (h_law_hand:Has P w K mg base k "_law_hand" ["cell","k"] vz) (h_law_row:Has P w K mg base k "_law_row" ["hand","names"] Cb) (h_law_settled:Has P w K mg base k "_law_settled" ["rows"] ki) (D:Def K mg "_law_rows" kf ["script","names"]):Has P w K mg base (k+1) "_law_rows" ["script","names"] (xw K):=by
 refine D.has Cw (λvs H Q E h=>?_) (λf cdv A outer s H vs Q E hr h=>?_)
 ·obtain ⟨_,_,_,_,rfl,_,_,_,_,_,_⟩:=h;rfl
 have nd:=Cw.nd;have hu:=br hr;have hu0:=aa9 hu;obtain ⟨a,l,ns,zs,rfl,ha,hn,n1,n2,n3,q⟩:=h;have m_enumerate:=G.m_enumerate;have m_len:=G.m_len;have m_str:=G.m_str;have m_sum:=G.m_sum;refine ⟨_,(A9 (AH 2 nd (by first | exact aa1 rfl | exact aa0 rfl) (AN (A2 0)) (by first | exact .inl rfl | exact .inr rfl | assumption)) (A9 (AH 3 nd (by first | exact aa1 rfl | exact aa0 rfl) (A6 0) (by first | exact .inl rfl | exact .inr rfl | assumption)) (A9 (AH 4 nd (by first | exact aa1 rfl | exact aa0 rfl) (@Dr _ _ _ _ _ (BS (A7 0) (A6 0) (BS (A7 0) (A6 0) (BS (A7 0) (A6 0) (BS (A7 0) (A6 0) (@Ex _ _))))) rfl rfl (λe=>nomatch e) (by decide)) (by first | exact .inl rfl | exact .inr rfl | assumption)) (A9 (BX (@K1 _ _ _ _ _ _ _ _ rfl m_enumerate (A1 (AR (AX 0) (A0 0 (by first | exact aa1 rfl | exact aa0 (aa1 rfl) | exact aa0 (aa0 rfl))) (AT 0) (AS (A6 0))) (A2 0)) (by rfl)) (BY 2 (BE (B6 5 nd (by first | exact aa1 rfl | exact aa0 rfl) (by first | exact .inl rfl | exact .inr rfl | assumption)) (BE (B6 6 nd (by first | exact aa1 rfl | exact aa0 rfl) (by first | exact .inl rfl | exact .inr rfl | assumption)) (@jo _)))) (A9 (AH 7 nd (by first | exact aa1 rfl | exact aa0 rfl) (AC h_law_row hr (A1 (AC h_law_hand hr (A1 (A0 6 (by first | exact aa1 rfl | exact aa0 (aa1 rfl) | exact aa0 (aa0 rfl))) (A1 (A0 5 (by first | exact aa1 rfl | exact aa0 (aa1 rfl) | exact aa0 (aa0 rfl))) (A2 0)))) (A1 (A0 1 (by first | exact aa1 rfl | exact aa0 (aa1 rfl) | exact aa0 (aa0 rfl))) (A2 0)))) (by first | exact .inl rfl | exact .inr rfl | assumption)) (A9 (AH 8 nd (by first | exact aa1 rfl | exact aa0 rfl) (AD (AO 0) (AM (@j0 _ rfl) m_sum b_sum (A1 (BH (AY ["word"] [] [] trivial trivial) (@Ce _ _ _ _ (A0 7 (by first | exact aa1 rfl | exact aa0 (aa1 rfl) | exact aa0 (aa0 rfl)))) (λ_ _ _=>(AZ 0 (show aba (["word"]:List Str) by decide+kernel) (by first | exact .inl rfl | exact .inr rfl | assumption))) (λ_ _ _=>(@lb _)) (λ_ _ _=>(AD (AO 0) (A6 0) (AM (BT 0) m_len b8 (A1 (B5 (BZ 0) m_str sy (A1 (A0 0 (by first | exact aa1 rfl | exact aa0 (aa1 rfl) | exact aa0 (aa0 rfl))) (A2 0))) (A2 0)))))) (A2 0))) (A6 0)) (by first | exact .inl rfl | exact .inr rfl | assumption)) (AA (AJ (AW (BO (AI (@ip _) (AD (AO 0) (A0 3 (by first | exact aa1 rfl | exact aa0 (aa1 rfl) | exact aa0 (aa0 rfl))) (A0 8 (by first | exact aa1 rfl | exact aa0 (aa1 rfl) | exact aa0 (aa0 rfl)))) (A6 0) (AE 0)) (BR (AI (@ip _) (C3 hu (A0 4 (by first | exact aa1 rfl | exact aa0 (aa1 rfl) | exact aa0 (aa0 rfl))) (AB (@ig _) (A0 7 (by first | exact aa1 rfl | exact aa0 (aa1 rfl) | exact aa0 (aa0 rfl))) (A6 0))) (C3 hu (@Dr _ _ _ _ _ (BS (A7 0) (A6 0) (BS (A7 0) (A6 0) (BS (A7 0) (A6 0) (BS (A7 0) (A6 0) (@Ex _ _))))) rfl rfl (λe=>nomatch e) (by decide)) (AB (@ig _) (A0 7 (by first | exact aa1 rfl | exact aa0 (aa1 rfl) | exact aa0 (aa0 rfl))) (A6 0))) (AE 0))))) (A9 (BG (AQ PySem.F.plainAttrs_list PySem.F.slot_list_append PySem.F.type_list_append (BQ 0) (A0 2 (by first | exact aa1 rfl | exact aa0 (aa1 rfl) | exact aa0 (aa0 rfl))) (A1 (A0 7 (by first | exact aa1 rfl | exact aa0 (aa1 rfl) | exact aa0 (aa0 rfl))) (A2 0)))) (A9 (AH 3 nd (by first | exact aa1 rfl | exact aa0 rfl) (AD (AO 0) (A0 3 (by first | exact aa1 rfl | exact aa0 (aa1 rfl) | exact aa0 (aa0 rfl))) (A0 8 (by first | exact aa1 rfl | exact aa0 (aa1 rfl) | exact aa0 (aa0 rfl)))) (by first | exact .inl rfl | exact .inr rfl | assumption)) (AA (CC hu (A0 4 (by first | exact aa1 rfl | exact aa0 (aa1 rfl) | exact aa0 (aa0 rfl))) (AB (@ig _) (A0 7 (by first | exact aa1 rfl | exact aa0 (aa1 rfl) | exact aa0 (aa0 rfl))) (A6 0)) (AD (AO 0) (C3 hu (A0 4 (by first | exact aa1 rfl | exact aa0 (aa1 rfl) | exact aa0 (aa0 rfl))) (AB (@ig _) (A0 7 (by first | exact aa1 rfl | exact aa0 (aa1 rfl) | exact aa0 (aa0 rfl))) (A6 0))) (A6 0)))))) (AK 0)))))) (AA (AF (AC h_law_settled hr (A1 (A0 2 (by first | exact aa1 rfl | exact aa0 (aa1 rfl) | exact aa0 (aa0 rfl))) (A2 0))))))))),?_⟩;rw[show start ["script","names","rows","size","counts","k","cell","row","cost"] [.ref a,.ref l]=[some (.ref a),some (.ref l),none,none,none,none,none,none,none] from rfl];clear hu hu0 nd hr;push_cast [tDisp];have sz:=sizeLine_eq;refine ⟨ab7 _,λp hp cd hcd=>?_⟩;push_cast [qq,iEnum];have hcp:cd≠p:=λe=>by rw[e,aa] at hcd;cases hcd
 refine ⟨aa,k4 0 0 0 0,rfl,by show (4:Nat)≤15;decide,?_⟩;have S2:ao H (upd (upd (upd H p (.lst [])) cd (.dK [])) cd (.dK (d8 [] (k4 0 0 0 0)))):=((ae hp _).trans (ae hcd _)).upd ((ae hp _).free hcd) _;have c2:C4 (upd (upd (upd H p (.lst [])) cd (.dK [])) cd (.dK (d8 [] (k4 0 0 0 0)))) cd:=⟨0,0,0,0,by rw[aa];rfl⟩;have hp2:upd (upd (upd H p (.lst [])) cd (.dK [])) cd (.dK (d8 [] (k4 0 0 0 0))) p=some (.lst []):=by rw[ai hcp.symm,ai hcp.symm];exact aa
 have HC:H cd=none:=(ae hp _).free hcd;generalize upd (upd (upd H p (.lst [])) cd (.dK [])) cd (.dK (d8 [] (k4 0 0 0 0)))=H2 at S2 c2 hp2 ⊢;refine ⟨_,S2.seq ha,λsl hsl=>⟨⟨_,SqL.of aa⟩,?_⟩⟩;obtain ⟨ms,em,ml⟩:=Hw ns none (some 63);rw[em];have HS:H sl=none:=S2.free hsl;have nsp:sl≠p:=(aq hp2 hsl).symm;have nsc:sl≠cd:=by obtain ⟨_,_,_,_,e⟩:=c2;exact (aq e hsl).symm
 obtain ⟨P1,eP1⟩:∃P1:Nat→L2.St→Hp→Prop,∀i σ H',P1 i σ H'↔∃(raws:List (List V)) (ps:List Addr) (size:Int) (v5 v6 v7 v8:Option V),σ=[some (.ref a),some (.ref l),some (.ref p),some (.int size),some (.ref cd),v5,v6,v7,v8]∧ao H H'∧H' sl=some (.lst (ms.map V.int))∧C4 H' cd∧H' p=some (.lst (ps.map V.ref))∧b9 H' ps raws∧(∀r∈raws,ve r∧yc (zs.drop 8) r)∧raws.length≤i:=⟨_,λ_ _ _=>acu⟩;refine Fm (xs:=ms.map V.int) P1 ((eP1 _ _ _).mpr ⟨[],[],0,none,none,none,none,rfl,S2.trans (ae hsl _),aa,c2.same (ae hsl _),ae hsl _ _ _ hp2,b9.nil _,(λ_ h=>nomatch h),aa3 _⟩) (λi σ H' _ h=>?_) ?_ ?_
 ·obtain ⟨_,_,_,_,_,_,_,_,_,h,_⟩:=(eP1 _ _ _).mp h;exact SqL.of h
 ·clear c2 hp2 hsl S2 em hcd;rintro i x σ H3 t hx hh ht;obtain ⟨raws,ps,size,v5,v6,v7,v8,rfl,s3,hsl3,c3,hp3,tp3,ro3,rl3⟩:=(eP1 _ _ _).mp hh;clear hh;rw[aag] at hx;obtain ⟨cell,hce,rfl⟩:=Option.map_eq_some_iff.mp hx;have hi:i < ms.length:=(List.getElem?_eq_some_iff.mp hce).1;have s4:=ae ht (.tup [.int (i:Nat),.int cell]);refine gp aa rfl ?_;push_cast [and_true];refine ⟨cell,i,rfl,by omega,λh H5 s5 hf5 hh5=>⟨h,l,zs,rfl,hh5,((s3.trans s4).trans s5) _ _ n1,n2,n3,λu r H6 s6 hu ro hri=>?_⟩⟩;have S6:ao H3 H6:=s4.trans (ak.fresh ((ak.of s5).trans s6) hf5);obtain ⟨rw1,rl,z,rs,rfl,hz⟩:=raw_wd ro;refine ⟨u,rfl,⟨_,SqT.of hu⟩,λD hD=>Bn (λi ys=>∃xs:List Int,ys=xs.map V.int) (SqT.of hu) (by omega) hD ⟨[],rfl⟩ (λi x ys H7 G' K' hx hP hl2 hS hG hK=>?_) λys H7 hP hl2 hS hD2=>?_⟩
  ·push_cast [and_true];obtain ⟨xs,rfl⟩:=hP;have:=rw1 x (aap hx);exact ⟨this.1,by omega,hK _ _ (ao.refl _) ⟨xs++[_],by rw[aad];rfl⟩⟩
  obtain ⟨xs,rfl⟩:=hP;refine ⟨xs,SqL.of hD2,?_⟩;have S7:=S6.trans hS;have hu7:=hS _ _ hu;have c7:=c3.same S7;have ns:∀{H9:Hp} {w5 w6 w7 w8:Option V} {sz':Int},ao H3 H9→P1 (i+1) [some (.ref a),some (.ref l),some (.ref p),some (.int sz'),some (.ref cd),w5,w6,w7,w8] H9:=λs=>(eP1 _ _ _).mpr ⟨raws,ps,_,_,_,_,_,rfl,s3.trans s,s _ _ hsl3,c3.same s,s _ _ hp3,tp3.keep (Tk.of s),ro3,abt rl3⟩;refine bc (λ_=>?_) λ_=>ns S7;obtain ⟨g0,hg0⟩:=c7.get hz;refine bq hu7 (ay (j:=0) rfl) ⟨_,hg0,λd2 hd2=>?_⟩;push_cast [qq];have S8:ao H7 (upd (upd H7 d2 (.dK [])) d2 (.dK (d8 [] (k4 8 40 60 60)))):=(ae hd2 _).upd hd2 _;have c8:C4 (upd (upd H7 d2 (.dK [])) d2 (.dK (d8 [] (k4 8 40 60 60)))) d2:=⟨8,40,60,60,by rw[aa];rfl⟩;refine ⟨aa,k4 8 40 60 60,rfl,by show (4:Nat)≤15;decide,?_⟩;generalize upd (upd H7 d2 (.dK [])) d2 (.dK (d8 [] (k4 8 40 60 60)))=H8 at S8 c8 ⊢;obtain ⟨g1,hg1⟩:=c8.get hz;have hv8:=S8 _ _ hu7;refine bq hv8 (ay (j:=0) rfl) ⟨_,hg1,?_⟩;have S9:=S7.trans S8;push_cast [and_true];refine bc (λ_=>?_) λ_=>ns S9;have hp9:=S9 _ _ hp3;have pl:ps.length≤63:=by rw[tp3.1];omega
  refine fb hp9 (by rw[aa2];omega) ?_;have tk:Tk H8 (upd H8 p (.lst (ps.map V.ref++[.ref u]))):=Tk.upd (Tk.refl _) λxs e=>by rw[hp9] at e;cases e
  have c9:C4 (upd H8 p (.lst (ps.map V.ref++[.ref u]))) cd:=by
   obtain ⟨x1,x2,x3,x4,e⟩:=c3.same S9;exact ⟨x1,x2,x3,x4,by rw[ai hcp];exact e⟩
  have hv9:=tk _ _ hv8;have s9:ao H (upd H8 p (.lst (ps.map V.ref++[.ref u]))):=(s3.trans S9).upd hp _;have sl9:upd H8 p (.lst (ps.map V.ref++[.ref u])) sl=some (.lst (ms.map V.int)):=by rw[ai nsp];exact S9 _ _ hsl3
  have tp9:=((tp3.keep (Tk.of S9)).keep tk).snoc hv9;have pp9:upd H8 p (.lst (ps.map V.ref++[.ref u])) p=some (.lst ((ps++[u]).map V.ref)):=by rw[aa,aad];rfl
  generalize upd H8 p (.lst (ps.map V.ref++[.ref u]))=H9 at c9 hv9 s9 sl9 tp9 pp9 tk ⊢;obtain ⟨g2,hg2⟩:=c9.get hz;refine bq hv9 (ay (j:=0) rfl) ⟨_,hg2,?_⟩;obtain ⟨kvs,k1,k2⟩:=c9.put hz (g2+1);refine bq hv9 (ay (j:=0) rfl) ⟨_,k1,(eP1 _ _ _).mpr ⟨raws++[_],ps++[u],_,_,_,_,_,rfl,s9.upd HC _,by rw[ai nsc];exact sl9,k2,by rw[ai hcp.symm];exact pp9,tp9.keep (Tk.upd (Tk.refl _) λxs e=>by obtain ⟨x1,x2,x3,x4,e2⟩:=c9;rw[e2] at e;cases e),λr hr=>(List.mem_append.mp hr).elim (ro3 r) λh=>by rw[List.mem_singleton.mp h];exact ⟨ro,hri⟩,by rw[aa4,abj];omega⟩⟩
 ·rintro σ H3 hh;obtain ⟨raws,ps,size,v5,v6,v7,v8,rfl,s3,hsl3,c3,hp3,tp3,ro3,rl3⟩:=(eP1 _ _ _).mp hh;rw[aa2] at rl3;push_cast [and_true];exact ⟨p,raws,zs.drop 8,rfl,⟨ps,hp3,tp3⟩,λr hr=>(ro3 r hr).1,λr hr=>(ro3 r hr).2,by omega,λl' rs H4 s4 hl4 hT hR=>q l' rs H4 (s3.trans s4) hl4 hT hR⟩
noncomputable abbrev ou:Stmt:=top 58
theorem Km:au ["row","words"] ["row"] (af ou):=⟨rfl,rfl,rfl,by decide+kernel,rfl,by decide+kernel,by decide+kernel⟩
theorem Mk (G:Gs w K mg κ) (D:Def K mg "_law_line" ou ["row"]):Has P w K mg base (k+1) "_law_line" ["row"] Cn:=by
 refine D.has Km (λvs H Q E h=>?_) (λf cdv A outer s H vs Q E hr h=>?_)
 ·obtain ⟨_,_,rfl,_,_,_⟩:=h;rfl
 have nd:=Km.nd;have hu:=br hr;have hu0:=aa9 hu;obtain ⟨t,r,rfl,ht,ok,q⟩:=h;have m_str:=G.m_str;refine ⟨_,(A9 (C1 1 nd (AY ["word"] [] [] trivial trivial) (@Ce _ _ _ _ (A0 0 (by first | exact aa1 rfl | exact aa0 (aa1 rfl) | exact aa0 (aa0 rfl)))) (λ_ _ _=>(AZ 0 (show aba (["word"]:List Str) by decide+kernel) (by first | exact .inl rfl | exact .inr rfl | assumption))) (λ_ _ _=>(@lb _)) (λ_ _ _=>(B5 (BZ 0) m_str sy (A1 (A0 0 (by first | exact aa1 rfl | exact aa0 (aa1 rfl) | exact aa0 (aa0 rfl))) (A2 0)))) (by first | exact .inl rfl | exact .inr rfl | assumption)) (BD (AJ (AI (AL 0) (AB (@ig _) (A0 0 (by first | exact aa1 rfl | exact aa0 (aa1 rfl) | exact aa0 (aa0 rfl))) (A6 0)) (A7 0) (AE 0)) (AA (AH 1 nd (by first | exact aa1 rfl | exact aa0 rfl) (AD (@gm _) (AD (@gm _) (AR (AX 0) (A0 1 (by first | exact aa1 rfl | exact aa0 (aa1 rfl) | exact aa0 (aa0 rfl))) (AT 0) (AS (A6 0))) (AN (A1 (A7 0) (A2 0)))) (AR (AX 0) (A0 1 (by first | exact aa1 rfl | exact aa0 (aa1 rfl) | exact aa0 (aa0 rfl))) (AS (A6 0)) (AT 0))) (by first | exact .inl rfl | exact .inr rfl | assumption))) (AK 0)) (AA (AF (AQ PySem.F.plainAttrs_str PySem.F.slot_str_join PySem.F.type_str_join (BP 0) (A7 0) (A1 (A0 1 (by first | exact aa1 rfl | exact aa0 (aa1 rfl) | exact aa0 (aa0 rfl))) (A2 0))))))),?_⟩;rw[show start ["row","words"] [.ref t]=[some (.ref t),none] from rfl];clear hu hu0 nd hr;push_cast [and_true];have sz:=sizeLine_eq;have vl:r.vs.length≤17:=by
  have:=(Rw.txl ok).2;cases r with
  | rule n k p ws=>simp only[Rw.tx,Rw.vs,aa8] at this ⊢;omega
  | _=>exact this
 have vw:∀v∈r.vs,tq v:=by
  cases r with
  | none=>intro v hv;rw[List.mem_singleton.mp hv];exact True.intro
  | rule n k p ws=>
   intro v hv;refine (Rw.wd ok rfl v ?_).word;simp only[Rw.vs,Rw.tx,aav] at hv ⊢;rcases hv with h | h | h | h | h
   ·exact .inl h
   ·exact .inr (.inl h)
   ·exact .inr (.inr (.inl h))
   ·exact .inr (.inr (.inr (.inl h)))
   ·exact .inr (.inr (.inr (.inr (.inr h))))
  | kind n=>exact λv hv=>(Rw.wd ok rfl v hv).word
  | does n d=>exact λv hv=>(Rw.wd ok rfl v hv).word
 refine ⟨⟨_,SqT.of ht⟩,λl hl=>Bn (λi ys=>ys=(r.vs.take i).map λv=>V.str (ag v)) (SqT.of ht) (by omega) hl rfl (λi x ys H1 G' K' hx hP hl2 hS hG hK=>?_) λys H1 hP hl2 hS hD2=>?_⟩
 ·push_cast [and_true];refine ⟨vw x (aap hx),hK _ _ (ao.refl _) ?_⟩;rw[hP,aax,hx,aad];rfl
 rw[aat] at hP;subst hP;refine cf (λσ H2=>∃l2,σ=[some (.ref t),some (.ref l2)]∧ao H H2∧H2 l2=some (.lst ((r.tx.map ag).map V.str))) ?_ ?_
 ·push_cast [and_true];have g:=hS _ _ ht;cases r with
  | rule n k p ws=>
   refine bq g (ay (j:=0) rfl) ⟨rfl,ifY (show V.str ("rule":Str)=V.str "rule" from rfl) ⟨_,SqL.of hD2,λp1 h1=>⟨by show (1:Nat)≤sizeLine;decide,λp2 h2=>?_⟩⟩⟩;have ey:((Rw.rule n k p ws).vs.map λv=>V.str (ag v))=(((Rw.rule n k p ws).vs.map ag).map V.str):=by rw[abo];rfl
   have e1:ck ((Rw.rule n k p ws).vs.map λv=>V.str (ag v)) none (some 4)=[V.str "rule",V.str n,V.str k,V.str (ag (.int p))]:=jf _ 4 (by rw[aa2];show 4≤ws.length+4;omega);have e2:ck ((Rw.rule n k p ws).vs.map λv=>V.str (ag v)) (some 4) none=(ws.map ag).map V.str:=by rw[ey];exact cx _ 4
   rw[e1];have wl:ws.length≤12:=ok.2.2.2.2.2.1;refine dv (ae h2 _ _ _ aa) aa (by show (5:Nat)≤sizeLine;decide) λp3 h3=>?_;have S3:=(ae h1 (.lst [V.str "rule",V.str n,V.str k,V.str (ag (.int p))])).trans ((ae h2 (.lst [V.str (Str.ofString "=")])).trans (ae h3 (.lst ([V.str "rule",V.str n,V.str k,V.str (ag (.int p))]++[V.str (Str.ofString "=")]))));refine ⟨_,SqL.of (S3 _ _ hD2),λp4 h4=>?_⟩;rw[e2];refine dv (ae h4 _ _ _ aa) aa (by first | (simp only[aa4,aa8,abg,aa2];omega) | (rw[e1];simp only[aa4,aa8,abg,aa2];omega)) λp5 h5=>⟨p5,rfl,(hS.trans S3).trans ((ae h4 _).trans (ae h5 _)),?_⟩;rw[aa];rfl
  | kind n=>exact bq g (ay (j:=0) rfl) ⟨rfl,ifN (show ¬V.str ("kind":Str)=V.str "rule" by decide+kernel) ⟨hS,by rw[hD2,abo];rfl⟩⟩
  | does n d=>exact bq g (ay (j:=0) rfl) ⟨rfl,ifN (show ¬V.str ("does":Str)=V.str "rule" by decide+kernel) ⟨hS,by rw[hD2,abo];rfl⟩⟩
  | none=>exact bq g (ay (j:=0) rfl) ⟨rfl,ifN (show ¬V.str ("":Str)=V.str "rule" by decide+kernel) ⟨hS,by rw[hD2,abo];rfl⟩⟩
 ·rintro σ H2 ⟨l2,rfl,s2,h2⟩;push_cast [and_true];refine ⟨r.tx.map ag,SqL.of h2,?_,q H2 s2⟩;have tl:=(Rw.txl ok).2;by_cases f:r.full=true
  ·have:=(Im (Rw.wd ok f)).2;omega
  ·have e:r=.none:=by cases r <;> first | rfl | exact absurd rfl f
   rw[e];decide+kernel
noncomputable abbrev rm:Stmt:=top 59
theorem Ic:au ["word","hand","some"] ["word","hand"] (af rm):=⟨rfl,rfl,rfl,by decide+kernel,rfl,by decide+kernel,by decide+kernel⟩
theorem Mf (G:Gs w K mg κ) (h_law_draw:Has P w K mg base k "_law_draw" ["hand","limit"] di) (D:Def K mg "_law_bad_from" rm ["word","hand"]):Has P w K mg base (k+1) "_law_bad_from" ["word","hand"] Bi:=by
 refine D.has Ic (λvs H Q E h=>?_) (λf cdv A outer s H vs Q E hr h=>?_)
 ·obtain ⟨_,_,_,rfl,_,_,_⟩:=h;rfl
 have nd:=Ic.nd;have hu:=br hr;have hu0:=aa9 hu;obtain ⟨z,h,n,rfl,hh,hn,q⟩:=h;refine ⟨_,(BD (AJ (AI (AL 0) (A0 0 (by first | exact aa1 rfl | exact aa0 (aa1 rfl) | exact aa0 (aa0 rfl))) (A7 0) (AE 0)) (AA (AH 2 nd (by first | exact aa1 rfl | exact aa0 rfl) (AN (A1 (A7 0) (A1 (A7 0) (A1 (A7 0) (A1 (A7 0) (A1 (A7 0) (A1 (A7 0) (A1 (A7 0) (A1 (AD (@ik _) (A7 0) (A6 0)) (A1 (A7 0) (A1 (A7 0) (A1 (A7 0) (A1 (A7 0) (A1 (A7 0) (A2 0))))))))))))))) (by first | exact .inl rfl | exact .inr rfl | assumption))) (AA (AJ (AI (AL 0) (A0 0 (by first | exact aa1 rfl | exact aa0 (aa1 rfl) | exact aa0 (aa0 rfl))) (A7 0) (AE 0)) (AA (AH 2 nd (by first | exact aa1 rfl | exact aa0 rfl) (AN (B9 (A8 (A8 (A8 (A8 (A8 (A8 (A8 (A8 (A8 (A8 (A8 (A8 (A8 (BA 0)))))))))))))))) (by first | exact .inl rfl | exact .inr rfl | assumption))) (AA (AH 2 nd (by first | exact aa1 rfl | exact aa0 rfl) (AN (B9 (A8 (A8 (A8 (A8 (A8 (A8 (A8 (A8 (A8 (A8 (A8 (A8 (A8 (BA 0)))))))))))))))) (by first | exact .inl rfl | exact .inr rfl | assumption)))))) (AA (AF (AB (AG 0) (A0 2 (by first | exact aa1 rfl | exact aa0 (aa1 rfl) | exact aa0 (aa0 rfl))) (AC h_law_draw hr (A1 (A0 1 (by first | exact aa1 rfl | exact aa0 (aa1 rfl) | exact aa0 (aa0 rfl))) (A1 (A6 0) (A2 0)))))))),?_⟩;rw[show start ["word","hand","some"] [.str z,.ref h]=[some (.str z),some (.ref h),none] from rfl];clear hu hu0 nd hr;push_cast [and_true];have sz:=sizeLine_eq;refine cf (λσ' H'=>∃(p:Addr) (zs:List Str),σ'=[some (.str z),some (.ref h),some (.ref p)]∧ao H H'∧H p=none∧H' p=some (.lst (zs.map V.str))∧zs.length=13∧∀w∈zs,PW w∧dr z w=false) ?_ ?_
 ·push_cast [and_true];refine ⟨rfl,bc (λc=>⟨by decide+kernel,by show (13:Nat)≤sizeLine;decide,λp hp=>⟨ae hp _,hp,[Str.ofString "h1",Str.ofString "v1",Str.ofString "n0",Str.ofString "n10",Str.ofString "out",Str.ofString "01",Str.ofString "+5",(i7 (Str.ofString "9") (abe 61)),Str.ofString "-0",Str.ofString "n",Str.ofString "N1",Str.ofString "1_0",Str.ofString "any"],aa,rfl,λw hw=>?_⟩⟩) λc=>⟨rfl,bc (λc1=>⟨by show (13:Nat)≤sizeLine;decide,λp hp=>⟨ae hp _,hp,[Str.ofString "n1",Str.ofString "h1",Str.ofString "v0",Str.ofString "v10",Str.ofString "x",Str.ofString "5",Str.ofString "out",Str.ofString "v",Str.ofString "V1",Str.ofString "var",Str.ofString "t1",Str.ofString "v1v",Str.ofString "v-1"],aa,rfl,λw hw=>?_⟩⟩) λc1=>⟨by show (13:Nat)≤sizeLine;decide,λp hp=>⟨ae hp _,hp,[Str.ofString "h0",Str.ofString "h10",Str.ofString "n1",Str.ofString "v1",Str.ofString "t4",Str.ofString "x",Str.ofString "5",Str.ofString "H1",Str.ofString "h",Str.ofString "t",Str.ofString "t0",Str.ofString "Out",Str.ofString "any"],aa,rfl,λw hw=>?_⟩⟩⟩⟩
  ·rw[c];exact ⟨PW.of (Cy w hw).1,(Cy w hw).2⟩
  ·rw[c1];exact ⟨PW.of (Ag w hw).1,(Ag w hw).2⟩
  ·refine ⟨PW.of (Aa w hw).1,?_⟩;unfold dr;rw[if_neg c,if_neg c1];exact (Aa w hw).2
 ·rintro σ' H1 ⟨p,zs,rfl,s1,hp,hz,zl,hw⟩;push_cast [and_true];have np:p≠h:=λe=>by obtain ⟨_,_,_,x1,_⟩:=id hh;rw[e,x1] at hp;cases hp
  refine az (hh.same s1) (by omega) (by decide) (by decide+kernel) λx H2 s2 hh2 x0 x1=>?_;obtain ⟨w,hm,ha⟩:=je (zs:=zs) x0 (by omega);exact ah (s2 _ _ np hz) ha (q w H2 ((ak.of s1).trans s2) hh2 (hw w hm).1 (hw w hm).2)
noncomputable abbrev ph:Stmt:=top 60
theorem Kc:au ["words","at","hand","names","costs","shapes","deeds","boxes","pick"] ["words","at","hand"] (af ph):=⟨rfl,rfl,rfl,by decide+kernel,rfl,by decide+kernel,by decide+kernel⟩
theorem L5 (G:Gs w K mg κ) (h_law_bad_from:Has P w K mg base k "_law_bad_from" ["word","hand"] Bi) (h_law_draw:Has P w K mg base k "_law_draw" ["hand","limit"] di) (D:Def K mg "_law_bad_word" ph ["words","at","hand"]):Has P w K mg base (k+1) "_law_bad_word" ["words","at","hand"] Cv:=by
 refine D.has Kc (λvs H Q E h=>?_) (λf cdv A outer s H vs Q E hr h=>?_)
 ·obtain ⟨_,_,_,_,_,rfl,_,_,_,_,_,_,_,_,_⟩:=h;rfl
 have nd:=Kc.nd;have hu:=br hr;have hu0:=aa9 hu;obtain ⟨l,h,i,n,ws,rfl,hL,hwl,hh,hn,nl,hg,i1,i2,q⟩:=h;have m_min:=G.m_min;refine ⟨_,(A9 (AH 3 nd (by first | exact aa1 rfl | exact aa0 rfl) (AN (B9 (A8 (A8 (A8 (A8 (A8 (A8 (A8 (A8 (A8 (A8 (A8 (A8 (A8 (BA 0)))))))))))))))) (by first | exact .inl rfl | exact .inr rfl | assumption)) (A9 (AH 4 nd (by first | exact aa1 rfl | exact aa0 rfl) (AN (A1 (A7 0) (A1 (A7 0) (A1 (A7 0) (A1 (A7 0) (A1 (A7 0) (A1 (A7 0) (A1 (A7 0) (A1 (A7 0) (A1 (AD (@ik _) (A7 0) (A6 0)) (A1 (A7 0) (A1 (A7 0) (A1 (A7 0) (A1 (A7 0) (A2 0))))))))))))))) (by first | exact .inl rfl | exact .inr rfl | assumption)) (A9 (AH 5 nd (by first | exact aa1 rfl | exact aa0 rfl) (AN (A1 (A7 0) (A1 (A7 0) (A1 (A7 0) (A1 (A7 0) (A1 (A7 0) (A1 (A7 0) (A1 (A7 0) (A1 (A7 0) (A1 (A7 0) (A1 (A7 0) (A1 (AD (@ik _) (A7 0) (A6 0)) (A1 (A7 0) (A1 (A7 0) (A2 0))))))))))))))) (by first | exact .inl rfl | exact .inr rfl | assumption)) (A9 (AH 6 nd (by first | exact aa1 rfl | exact aa0 rfl) (AN (B9 (A8 (A8 (A8 (A8 (A8 (A8 (A8 (A8 (A8 (A8 (A8 (A8 (A8 (BA 0)))))))))))))))) (by first | exact .inl rfl | exact .inr rfl | assumption)) (A9 (AH 7 nd (by first | exact aa1 rfl | exact aa0 rfl) (AN (B9 (A8 (A8 (A8 (A8 (A8 (A8 (A8 (A8 (A8 (A8 (A8 (A8 (A8 (BA 0)))))))))))))))) (by first | exact .inl rfl | exact .inr rfl | assumption)) (A9 (AH 8 nd (by first | exact aa1 rfl | exact aa0 rfl) (AC h_law_draw hr (A1 (A0 2 (by first | exact aa1 rfl | exact aa0 (aa1 rfl) | exact aa0 (aa0 rfl))) (A1 (A6 0) (A2 0)))) (by first | exact .inl rfl | exact .inr rfl | assumption)) (A9 (AJ (AW (BB (AI (AL 0) (AB (AG 0) (A0 0 (by first | exact aa1 rfl | exact aa0 (aa1 rfl) | exact aa0 (aa0 rfl))) (A6 0)) (A7 0) (AE 0)) (BB (AI (AL 0) (A0 1 (by first | exact aa1 rfl | exact aa0 (aa1 rfl) | exact aa0 (aa0 rfl))) (A6 0) (AE 0)) (BM (AW (BO (AI (AL 0) (AB (AG 0) (A0 0 (by first | exact aa1 rfl | exact aa0 (aa1 rfl) | exact aa0 (aa0 rfl))) (A6 0)) (A7 0) (AE 0)) (BR (AI (AL 0) (A0 1 (by first | exact aa1 rfl | exact aa0 (aa1 rfl) | exact aa0 (aa0 rfl))) (A6 0) (AE 0))))))))) (AA (AF (AB (AG 0) (A0 3 (by first | exact aa1 rfl | exact aa0 (aa1 rfl) | exact aa0 (aa0 rfl))) (A0 8 (by first | exact aa1 rfl | exact aa0 (aa1 rfl) | exact aa0 (aa0 rfl)))))) (AK 0)) (A9 (AJ (AI (AL 0) (AB (AG 0) (A0 0 (by first | exact aa1 rfl | exact aa0 (aa1 rfl) | exact aa0 (aa0 rfl))) (A6 0)) (A7 0) (AE 0)) (AA (AF (AB (AG 0) (AN (A1 (AB (AG 0) (A0 4 (by first | exact aa1 rfl | exact aa0 (aa1 rfl) | exact aa0 (aa0 rfl))) (A0 8 (by first | exact aa1 rfl | exact aa0 (aa1 rfl) | exact aa0 (aa0 rfl)))) (A1 (AB (AG 0) (AN (B9 (A8 (A8 (A8 (A8 (A8 (BA 0)))))))) (AD (BL 0) (A0 8 (by first | exact aa1 rfl | exact aa0 (aa1 rfl) | exact aa0 (aa0 rfl))) (A6 0))) (A1 (AB (AG 0) (A0 5 (by first | exact aa1 rfl | exact aa0 (aa1 rfl) | exact aa0 (aa0 rfl))) (A0 8 (by first | exact aa1 rfl | exact aa0 (aa1 rfl) | exact aa0 (aa0 rfl)))) (A2 0))))) (AD (@xo _) (AM (@Gn _ rfl) m_min b_min (A1 (A0 1 (by first | exact aa1 rfl | exact aa0 (aa1 rfl) | exact aa0 (aa0 rfl))) (A1 (A6 0) (A2 0)))) (A6 0))))) (AK 0)) (A9 (AJ (AI (AL 0) (A0 1 (by first | exact aa1 rfl | exact aa0 (aa1 rfl) | exact aa0 (aa0 rfl))) (A6 0) (AE 0)) (AA (AF (AB (AG 0) (A0 6 (by first | exact aa1 rfl | exact aa0 (aa1 rfl) | exact aa0 (aa0 rfl))) (A0 8 (by first | exact aa1 rfl | exact aa0 (aa1 rfl) | exact aa0 (aa0 rfl)))))) (AK 0)) (A9 (AJ (AI (AL 0) (A0 1 (by first | exact aa1 rfl | exact aa0 (aa1 rfl) | exact aa0 (aa0 rfl))) (A6 0) (AE 0)) (AA (AF (AB (AG 0) (A0 7 (by first | exact aa1 rfl | exact aa0 (aa1 rfl) | exact aa0 (aa0 rfl))) (A0 8 (by first | exact aa1 rfl | exact aa0 (aa1 rfl) | exact aa0 (aa0 rfl)))))) (AK 0)) (AA (AF (AC h_law_bad_from hr (A1 (AB (AG 0) (A0 0 (by first | exact aa1 rfl | exact aa0 (aa1 rfl) | exact aa0 (aa0 rfl))) (A6 0)) (A1 (A0 2 (by first | exact aa1 rfl | exact aa0 (aa1 rfl) | exact aa0 (aa0 rfl))) (A2 0)))))))))))))))),?_⟩;rw[show start ["words","at","hand","names","costs","shapes","deeds","boxes","pick"] [.ref l,.int (i:Int),.ref h]=[some (.ref l),some (.int (i:Int)),some (.ref h),none,none,none,none,none,none] from rfl];clear hu hu0 nd hr;push_cast [and_true];have sz:=sizeLine_eq;have k13:∀(L:List V),L.length=13→L.length≤sizeLine:=λL e=>by omega
 refine ⟨k13 _ rfl,λp1 hp1=>⟨by decide+kernel,k13 _ rfl,λp2 hp2=>⟨by decide+kernel,k13 _ rfl,λp3 hp3=>⟨k13 _ rfl,λp4 hp4=>⟨k13 _ rfl,λp5 hp5=>?_⟩⟩⟩⟩⟩;have e1:=ae hp1 (.lst [V.str (Str.ofString "add"),V.str (Str.ofString "out"),V.str (Str.ofString "any"),V.str (Str.ofString "var"),V.str (Str.ofString "put"),V.str (Str.ofString "load"),V.str (Str.ofString "Aa"),V.str (Str.ofString "abcdefghi"),V.str (Str.ofString "a1"),V.str (Str.ofString "_"),V.str (Str.ofString "neg"),V.str (Str.ofString "a-b"),V.str (Str.ofString "7")]);have e2:=ae hp2 (.lst [V.str (Str.ofString "0"),V.str (Str.ofString "1000000"),V.str (Str.ofString "01"),V.str (Str.ofString "-1"),V.str (Str.ofString "+1"),V.str (Str.ofString "1.0"),V.str (Str.ofString "x"),V.str (Str.ofString "1_0"),V.str (i7 (Str.ofString "9") (abe 61)),V.str (Str.ofString "00"),V.str (Str.ofString "1e2"),V.str (Str.ofString "-0"),V.str (Str.ofString "any")]);have e3:=ae hp3 (.lst [V.str (Str.ofString "out"),V.str (Str.ofString "put"),V.str (Str.ofString "load"),V.str (Str.ofString "Any"),V.str (Str.ofString "x1"),V.str (Str.ofString "01"),V.str (Str.ofString "-0"),V.str (Str.ofString "+1"),V.str (Str.ofString "1_0"),V.str (Str.ofString "abcdefghi"),V.str (i7 (Str.ofString "9") (abe 61)),V.str (Str.ofString "-01"),V.str (Str.ofString "=")]);have e4:=ae hp4 (.lst [V.str (Str.ofString "div"),V.str (Str.ofString "Put"),V.str (Str.ofString "any"),V.str (Str.ofString "kind"),V.str (Str.ofString "h1"),V.str (Str.ofString "out"),V.str (Str.ofString "puts"),V.str (Str.ofString "move"),V.str (Str.ofString "does"),V.str (Str.ofString "5"),V.str (Str.ofString "set"),V.str (Str.ofString "ad"),V.str (Str.ofString "=")]);have e5:=ae hp5 (.lst [V.str (Str.ofString "t4"),V.str (Str.ofString "t0"),V.str (Str.ofString "h1"),V.str (Str.ofString "n1"),V.str (Str.ofString "Out"),V.str (Str.ofString "t"),V.str (Str.ofString "out1"),V.str (Str.ofString "0"),V.str (Str.ofString "any"),V.str (Str.ofString "t12"),V.str (Str.ofString "v1"),V.str (Str.ofString "T1"),V.str (Str.ofString "x")]);have SS:=e1.trans (e2.trans (e3.trans (e4.trans e5)));have g1:=(e2.trans (e3.trans (e4.trans e5))) _ _ aa;have g2:=(e3.trans (e4.trans e5)) _ _ aa;have g3:=(e4.trans e5) _ _ aa;have g4:=e5 _ _ aa;have g5:(upd (upd (upd (upd (upd H p1 (.lst [V.str (Str.ofString "add"),V.str (Str.ofString "out"),V.str (Str.ofString "any"),V.str (Str.ofString "var"),V.str (Str.ofString "put"),V.str (Str.ofString "load"),V.str (Str.ofString "Aa"),V.str (Str.ofString "abcdefghi"),V.str (Str.ofString "a1"),V.str (Str.ofString "_"),V.str (Str.ofString "neg"),V.str (Str.ofString "a-b"),V.str (Str.ofString "7")])) p2 (.lst [V.str (Str.ofString "0"),V.str (Str.ofString "1000000"),V.str (Str.ofString "01"),V.str (Str.ofString "-1"),V.str (Str.ofString "+1"),V.str (Str.ofString "1.0"),V.str (Str.ofString "x"),V.str (Str.ofString "1_0"),V.str (i7 (Str.ofString "9") (abe 61)),V.str (Str.ofString "00"),V.str (Str.ofString "1e2"),V.str (Str.ofString "-0"),V.str (Str.ofString "any")])) p3 (.lst [V.str (Str.ofString "out"),V.str (Str.ofString "put"),V.str (Str.ofString "load"),V.str (Str.ofString "Any"),V.str (Str.ofString "x1"),V.str (Str.ofString "01"),V.str (Str.ofString "-0"),V.str (Str.ofString "+1"),V.str (Str.ofString "1_0"),V.str (Str.ofString "abcdefghi"),V.str (i7 (Str.ofString "9") (abe 61)),V.str (Str.ofString "-01"),V.str (Str.ofString "=")])) p4 (.lst [V.str (Str.ofString "div"),V.str (Str.ofString "Put"),V.str (Str.ofString "any"),V.str (Str.ofString "kind"),V.str (Str.ofString "h1"),V.str (Str.ofString "out"),V.str (Str.ofString "puts"),V.str (Str.ofString "move"),V.str (Str.ofString "does"),V.str (Str.ofString "5"),V.str (Str.ofString "set"),V.str (Str.ofString "ad"),V.str (Str.ofString "=")])) p5 (.lst [V.str (Str.ofString "t4"),V.str (Str.ofString "t0"),V.str (Str.ofString "h1"),V.str (Str.ofString "n1"),V.str (Str.ofString "Out"),V.str (Str.ofString "t"),V.str (Str.ofString "out1"),V.str (Str.ofString "0"),V.str (Str.ofString "any"),V.str (Str.ofString "t12"),V.str (Str.ofString "v1"),V.str (Str.ofString "T1"),V.str (Str.ofString "x")])) p5=some (.lst [V.str (Str.ofString "t4"),V.str (Str.ofString "t0"),V.str (Str.ofString "h1"),V.str (Str.ofString "n1"),V.str (Str.ofString "Out"),V.str (Str.ofString "t"),V.str (Str.ofString "out1"),V.str (Str.ofString "0"),V.str (Str.ofString "any"),V.str (Str.ofString "t12"),V.str (Str.ofString "v1"),V.str (Str.ofString "T1"),V.str (Str.ofString "x")]):=aa;have hh0:=hh.same SS;have hL0:=SS _ _ hL;generalize upd (upd (upd (upd (upd H p1 (.lst [V.str (Str.ofString "add"),V.str (Str.ofString "out"),V.str (Str.ofString "any"),V.str (Str.ofString "var"),V.str (Str.ofString "put"),V.str (Str.ofString "load"),V.str (Str.ofString "Aa"),V.str (Str.ofString "abcdefghi"),V.str (Str.ofString "a1"),V.str (Str.ofString "_"),V.str (Str.ofString "neg"),V.str (Str.ofString "a-b"),V.str (Str.ofString "7")])) p2 (.lst [V.str (Str.ofString "0"),V.str (Str.ofString "1000000"),V.str (Str.ofString "01"),V.str (Str.ofString "-1"),V.str (Str.ofString "+1"),V.str (Str.ofString "1.0"),V.str (Str.ofString "x"),V.str (Str.ofString "1_0"),V.str (i7 (Str.ofString "9") (abe 61)),V.str (Str.ofString "00"),V.str (Str.ofString "1e2"),V.str (Str.ofString "-0"),V.str (Str.ofString "any")])) p3 (.lst [V.str (Str.ofString "out"),V.str (Str.ofString "put"),V.str (Str.ofString "load"),V.str (Str.ofString "Any"),V.str (Str.ofString "x1"),V.str (Str.ofString "01"),V.str (Str.ofString "-0"),V.str (Str.ofString "+1"),V.str (Str.ofString "1_0"),V.str (Str.ofString "abcdefghi"),V.str (i7 (Str.ofString "9") (abe 61)),V.str (Str.ofString "-01"),V.str (Str.ofString "=")])) p4 (.lst [V.str (Str.ofString "div"),V.str (Str.ofString "Put"),V.str (Str.ofString "any"),V.str (Str.ofString "kind"),V.str (Str.ofString "h1"),V.str (Str.ofString "out"),V.str (Str.ofString "puts"),V.str (Str.ofString "move"),V.str (Str.ofString "does"),V.str (Str.ofString "5"),V.str (Str.ofString "set"),V.str (Str.ofString "ad"),V.str (Str.ofString "=")])) p5 (.lst [V.str (Str.ofString "t4"),V.str (Str.ofString "t0"),V.str (Str.ofString "h1"),V.str (Str.ofString "n1"),V.str (Str.ofString "Out"),V.str (Str.ofString "t"),V.str (Str.ofString "out1"),V.str (Str.ofString "0"),V.str (Str.ofString "any"),V.str (Str.ofString "t12"),V.str (Str.ofString "v1"),V.str (Str.ofString "T1"),V.str (Str.ofString "x")])=B at SS g1 g2 g3 g4 g5 hh0 hL0 ⊢;clear e1 e2 e3 e4 e5;refine az hh0 (by omega) (by decide) (by decide+kernel) λx H6 s6 hh6 x0 x1=>?_;have fin:∀(p:Addr) (zs:List Str),B p=some (.lst (zs.map V.str))→zs.length=13→(∀w∈zs,PW w∧Er ws i w)→sm K (.ref p) (.int x) H6 Q:=λp zs hp hz hw=>by
  obtain ⟨w,hm,ha⟩:=je (zs:=zs) x0 (by omega);exact ah (s6 _ _ (hh0.ne hp (by rw[aa2];omega)) hp) ha (q w H6 ((ak.of SS).trans s6) (hh6.le (by omega)) (hw w hm).1 (hw w hm).2)
 have hL6:=s6 _ _ nl hL0;have a0:atI (ws.map V.str) 0=some (.str (ws.getD 0 "")):=bp (k:=0) (by omega);have nmb:(ws.getD 0 ""=S "kind"∧i=1)∨i=1∨(ws.getD 0 ""=S "rule"∧i=2)→sm K (.ref p1) (.int x) H6 Q:=λhc=>fin p1 [Str.ofString "add",Str.ofString "out",Str.ofString "any",Str.ofString "var",Str.ofString "put",Str.ofString "load",Str.ofString "Aa",Str.ofString "abcdefghi",Str.ofString "a1",Str.ofString "_",Str.ofString "neg",Str.ofString "a-b",Str.ofString "7"] g1 rfl λw hw=>⟨PW.of (ue w hw).1,λ_=>(ue w hw).2,λe=>⟨λh3=>?_,λh4=>?_,λh5=>?_⟩,λe=>⟨λh2=>?_,λh3=>?_,λh4=>?_⟩⟩;rotate_left
 ·rcases hc with h | h | h <;> omega
 ·rcases hc with h | h | h <;> omega
 ·rcases hc with h | h | h <;> omega
 ·rcases hc with h | h | ⟨h,_⟩
  ·omega
  ·omega
  ·rw[e] at h;exact absurd h (of_decide_eq_false dne.2.2.2.2.2)
 ·rcases hc with h | h | h <;> omega
 ·rcases hc with h | h | h <;> omega
 cases hg with
 | kind n' hn'=>
  have i2:i < 2:=i2;exact ah hL6 a0 ⟨rfl,ifY rfl (nmb (.inl ⟨rfl,by omega⟩))⟩
 | none=>
  have i2:i < 1:=i2;omega
 | rule n' k' p' ws' h12 h1=>
  refine ah hL6 a0 ⟨rfl,ifN (λe=>absurd (V.str.inj e) (of_decide_eq_false dne.2.2.1)) ⟨rfl,bc (λc=>nmb (.inr (.inl (by omega)))) λc=>ah hL6 a0 ⟨rfl,ifY rfl ⟨rfl,bc (λc2=>nmb (.inr (.inr ⟨rfl,by omega⟩))) λc2=>ah hL6 a0 ⟨rfl,ifY rfl ?_⟩⟩⟩⟩⟩;have n1:i≠1:=λe=>c (by rw[e];rfl);have n2:i≠2:=λe=>c2 (by rw[e];rfl);have nd:¬S "rule"=S "does":=of_decide_eq_false dne.2.2.2.1;obtain ⟨w2,m2,t2⟩:=je (zs:=[Str.ofString "0",Str.ofString "1000000",Str.ofString "01",Str.ofString "-1",Str.ofString "+1",Str.ofString "1.0",Str.ofString "x",Str.ofString "1_0",(i7 (Str.ofString "9") (abe 61)),Str.ofString "00",Str.ofString "1e2",Str.ofString "-0",Str.ofString "any"]) x0 (by show x < 13;omega);obtain ⟨w3,m3,t3⟩:=je (zs:=[Str.ofString "out",Str.ofString "put",Str.ofString "load",Str.ofString "Any",Str.ofString "x1",Str.ofString "01",Str.ofString "-0",Str.ofString "+1",Str.ofString "1_0",Str.ofString "abcdefghi",(i7 (Str.ofString "9") (abe 61)),Str.ofString "-01",Str.ofString "="]) x0 (by show x < 13;omega);have g2':=s6 _ _ (hh0.ne g2 (by show (13:Nat)≠3;decide)) g2;have g3':=s6 _ _ (hh0.ne g3 (by show (13:Nat)≠3;decide)) g3;refine ah g2' t2 ⟨by show (5:Nat)≤sizeLine;decide,λpm hpm=>⟨by decide,?_⟩⟩;obtain ⟨wm,mm,tm⟩:=je (zs:=[Str.ofString "==",Str.ofString ":",Str.ofString "-",Str.ofString "as",Str.ofString "=="]) (x:=x % 5) (abh _ (by decide)) (by show x % 5 < 5;omega);refine ah aa tm (ah (ae hpm _ _ _ g3') t3 ⟨by show (3:Nat)≤sizeLine;decide,λpl hpl=>?_⟩);have d1:=ae hpm (.lst [V.str (Str.ofString "=="),V.str (Str.ofString ":"),V.str (Str.ofString "-"),V.str (Str.ofString "as"),V.str (Str.ofString "==")]);have d2:=ae hpl (.lst [V.str w2,V.str wm,V.str w3]);have QQ:∀w,PW w→Er (S "rule"::n'::k'::p'::S "="::ws') i w→Q (.str w) _:=λw h1 h2=>q w _ ((ak.of SS).trans (s6.trans (ak.of (d1.trans d2)))) ((hh6.same (d1.trans d2)).le (by omega)) h1 h2;by_cases h3:i=3
  ·refine ah aa (show atI [V.str w2,V.str wm,V.str w3] _=some (V.str w2) by rw[h3];rfl) (QQ w2 (PW.of (uo w2 m2).1) ⟨λh=>by rcases h with h | h <;> omega,λ_=>⟨λ_=>(uo w2 m2).2,λh=>by omega,λh=>by omega⟩,λe=>absurd e nd⟩)
  by_cases h4:i=4
  ·refine ah aa (show atI [V.str w2,V.str wm,V.str w3] _=some (V.str wm) by rw[h4];rfl) (QQ wm (PW.of (tj wm mm).1) ⟨λh=>by rcases h with h | h <;> omega,λ_=>⟨λh=>by omega,λ_=>(tj wm mm).2,λh=>by omega⟩,λe=>absurd e nd⟩)
  have e2:(if (5:Int) < (i:Int) then 5 else (i:Int)) - 3=2:=by split <;> omega
  rw[e2];exact ah aa rfl (QQ w3 (PW.of (qg w3 m3).1) ⟨λh=>by rcases h with h | h <;> omega,λ_=>⟨λh=>by omega,λh=>by omega,λ_=>(qg w3 m3).2⟩,λe=>absurd e nd⟩)
 | does n' d hd=>
  refine ah hL6 a0 ⟨rfl,ifN (λe=>absurd (V.str.inj e) (of_decide_eq_false dne.2.2.2.2.1)) ⟨rfl,bc (λc=>nmb (.inr (.inl (by omega)))) λc=>ah hL6 a0 ⟨rfl,ifN (λe=>absurd (V.str.inj e) (of_decide_eq_false dne.2.2.2.2.2)) (ah hL6 a0 ⟨rfl,ifN (λe=>absurd (V.str.inj e) (of_decide_eq_false dne.2.2.2.2.2)) ?_⟩)⟩⟩⟩;have n1:i≠1:=λe=>c (by rw[e];rfl);have nd:¬S "does"=S "rule":=of_decide_eq_false dne.2.2.2.2.2;have d3:=(i9 hd).1;refine ⟨rfl,bc (λc2=>fin p4 [Str.ofString "div",Str.ofString "Put",Str.ofString "any",Str.ofString "kind",Str.ofString "h1",Str.ofString "out",Str.ofString "puts",Str.ofString "move",Str.ofString "does",Str.ofString "5",Str.ofString "set",Str.ofString "ad",Str.ofString "="] g4 rfl λw hw=>⟨PW.of (tw w hw).1,λh=>?_,λe=>absurd e nd,λ_=>⟨λ_=>(tw w hw).2,λh=>by omega,λh=>by omega⟩⟩) λc2=>⟨rfl,bc (λc3=>fin p5 [Str.ofString "t4",Str.ofString "t0",Str.ofString "h1",Str.ofString "n1",Str.ofString "Out",Str.ofString "t",Str.ofString "out1",Str.ofString "0",Str.ofString "any",Str.ofString "t12",Str.ofString "v1",Str.ofString "T1",Str.ofString "x"] g5 rfl λw hw=>⟨PW.of (vf w hw).1,λh=>?_,λe=>absurd e nd,λ_=>⟨λh=>by omega,λ_=>(vf w hw).2,λh=>by omega⟩⟩) λc3=>ah hL6 (bp (k:=2) (by show 2 < d.length+1+1;omega)) ⟨_,h,_,rfl,hh6,by omega,λw H7 s7 hh7 hp hs=>q w H7 ((ak.of SS).trans (s6.trans s7)) (hh7.le (by omega)) hp ⟨λh=>?_,λe=>absurd e nd,λ_=>⟨λh=>by omega,λh=>by omega,λ_=>hs⟩⟩⟩⟩⟩
  ·rcases h with h | h
   ·omega
   ·exact absurd h.1 nd
  ·rcases h with h | h
   ·omega
   ·exact absurd h.1 nd
  ·rcases h with h | h
   ·omega
   ·exact absurd h.1 nd
noncomputable abbrev kr:Stmt:=top 61
theorem E7:au ["line","hand","words","style","at","some"] ["line","hand"] (af kr):=⟨rfl,rfl,rfl,by decide+kernel,rfl,by decide+kernel,by decide+kernel⟩
theorem Hf (G:Gs w K mg κ) (h_law_bad_word:Has P w K mg base k "_law_bad_word" ["words","at","hand"] Cv) (h_law_draw:Has P w K mg base k "_law_draw" ["hand","limit"] di) (D:Def K mg "_law_spoiled" kr ["line","hand"]):Has P w K mg base (k+1) "_law_spoiled" ["line","hand"] vg:=by
 refine D.has E7 (λvs H Q E h=>?_) (λf cdv A outer s H vs Q E hr h=>?_)
 ·obtain ⟨_,_,_,rfl,_,_,_,_⟩:=h;rfl
 have nd:=E7.nd;have hu:=br hr;have hu0:=aa9 hu;obtain ⟨h,n,r,rfl,hh,hn,ok,q⟩:=h;have m_int:=G.m_int;have m_len:=G.m_len;have m_max:=G.m_max;refine ⟨_,(A9 (AH 2 nd (by first | exact aa1 rfl | exact aa0 rfl) (AQ PySem.F.plainAttrs_str PySem.F.slot_str_split PySem.F.type_str_split (@p6 _) (A0 0 (by first | exact aa1 rfl | exact aa0 (aa1 rfl) | exact aa0 (aa0 rfl))) (A1 (A7 0) (A2 0))) (by first | exact .inl rfl | exact .inr rfl | assumption)) (A9 (AH 3 nd (by first | exact aa1 rfl | exact aa0 rfl) (AC h_law_draw hr (A1 (A0 1 (by first | exact aa1 rfl | exact aa0 (aa1 rfl) | exact aa0 (aa0 rfl))) (A1 (A6 0) (A2 0)))) (by first | exact .inl rfl | exact .inr rfl | assumption)) (A9 (AH 4 nd (by first | exact aa1 rfl | exact aa0 rfl) (AD (AO 0) (A6 0) (AC h_law_draw hr (A1 (A0 1 (by first | exact aa1 rfl | exact aa0 (aa1 rfl) | exact aa0 (aa0 rfl))) (A1 (AM (@t5 _ rfl) m_max Ee (A1 (A6 0) (A1 (AD (@xo _) (AM (AU 0) m_len b8 (A1 (A0 2 (by first | exact aa1 rfl | exact aa0 (aa1 rfl) | exact aa0 (aa0 rfl))) (A2 0))) (A6 0)) (A2 0)))) (A2 0))))) (by first | exact .inl rfl | exact .inr rfl | assumption)) (BD (AJ (AI (AL 0) (A0 3 (by first | exact aa1 rfl | exact aa0 (aa1 rfl) | exact aa0 (aa0 rfl))) (A6 0) (AE 0)) (A9 (AH 5 nd (by first | exact aa1 rfl | exact aa0 rfl) (AN (B9 (A8 (A8 (A8 (A8 (A8 (A8 (BA 0))))))))) (by first | exact .inl rfl | exact .inr rfl | assumption)) (BD (AJ (AI (@rf _) (AB (AG 0) (A0 2 (by first | exact aa1 rfl | exact aa0 (aa1 rfl) | exact aa0 (aa0 rfl))) (A6 0)) (A7 0) (AE 0)) (AA (AH 5 nd (by first | exact aa1 rfl | exact aa0 rfl) (AD (@gm _) (A0 5 (by first | exact aa1 rfl | exact aa0 (aa1 rfl) | exact aa0 (aa0 rfl))) (AN (B9 (A8 (A8 (A8 (A8 (BA 0)))))))) (by first | exact .inl rfl | exact .inr rfl | assumption))) (AK 0)) (AA (AF (AD (B7 0) (AD (B7 0) (A0 0 (by first | exact aa1 rfl | exact aa0 (aa1 rfl) | exact aa0 (aa0 rfl))) (A7 0)) (AB (AG 0) (A0 5 (by first | exact aa1 rfl | exact aa0 (aa1 rfl) | exact aa0 (aa0 rfl))) (AC h_law_draw hr (A1 (A0 1 (by first | exact aa1 rfl | exact aa0 (aa1 rfl) | exact aa0 (aa0 rfl))) (A1 (AM (AU 0) m_len b8 (A1 (A0 5 (by first | exact aa1 rfl | exact aa0 (aa1 rfl) | exact aa0 (aa0 rfl))) (A2 0))) (A2 0)))))))))) (AK 0)) (BD (AJ (AW (BO (AI (AL 0) (A0 3 (by first | exact aa1 rfl | exact aa0 (aa1 rfl) | exact aa0 (aa0 rfl))) (A6 0) (AE 0)) (BR (AI (@g8 _) (AM (AU 0) m_len b8 (A1 (A0 2 (by first | exact aa1 rfl | exact aa0 (aa1 rfl) | exact aa0 (aa0 rfl))) (A2 0))) (A6 0) (AE 0))))) (AA (AF (AQ PySem.F.plainAttrs_str PySem.F.slot_str_join PySem.F.type_str_join (BP 0) (A7 0) (A1 (AR (AX 0) (A0 2 (by first | exact aa1 rfl | exact aa0 (aa1 rfl) | exact aa0 (aa0 rfl))) (AT 0) (AS (AB (AG 0) (AN (A1 (AD (@xo _) (AM (AU 0) m_len b8 (A1 (A0 2 (by first | exact aa1 rfl | exact aa0 (aa1 rfl) | exact aa0 (aa0 rfl))) (A2 0))) (A6 0)) (A1 (A6 0) (A2 0)))) (B5 (@Bx _) m_int uc (A1 (BF (AL 0) (AB (AG 0) (A0 2 (by first | exact aa1 rfl | exact aa0 (aa1 rfl) | exact aa0 (aa0 rfl))) (A6 0)) (A7 0) (AE 0)) (A2 0)))))) (A2 0))))) (AK 0)) (A9 (AJ (AI (AL 0) (A0 3 (by first | exact aa1 rfl | exact aa0 (aa1 rfl) | exact aa0 (aa0 rfl))) (A6 0) (AE 0)) (AA (AF (AQ PySem.F.plainAttrs_str PySem.F.slot_str_join PySem.F.type_str_join (BP 0) (A7 0) (A1 (AD (@gm _) (AN (A1 (AB (AG 0) (AN (B9 (A8 (A8 (A8 (A8 (A8 (A8 (BA 0))))))))) (AC h_law_draw hr (A1 (A0 1 (by first | exact aa1 rfl | exact aa0 (aa1 rfl) | exact aa0 (aa0 rfl))) (A1 (A6 0) (A2 0))))) (A2 0))) (AR (AX 0) (A0 2 (by first | exact aa1 rfl | exact aa0 (aa1 rfl) | exact aa0 (aa0 rfl))) (AS (A6 0)) (AT 0))) (A2 0))))) (AK 0)) (A9 (AJ (AI (AL 0) (A0 3 (by first | exact aa1 rfl | exact aa0 (aa1 rfl) | exact aa0 (aa0 rfl))) (A6 0) (AE 0)) (AA (AF (AD (B7 0) (A7 0) (A0 0 (by first | exact aa1 rfl | exact aa0 (aa1 rfl) | exact aa0 (aa0 rfl)))))) (AK 0)) (A9 (AJ (AI (AL 0) (A0 3 (by first | exact aa1 rfl | exact aa0 (aa1 rfl) | exact aa0 (aa0 rfl))) (A6 0) (AE 0)) (AA (AF (AD (B7 0) (A0 0 (by first | exact aa1 rfl | exact aa0 (aa1 rfl) | exact aa0 (aa0 rfl))) (A7 0)))) (AK 0)) (BD (AJ (AW (BO (AI (AL 0) (A0 3 (by first | exact aa1 rfl | exact aa0 (aa1 rfl) | exact aa0 (aa0 rfl))) (A6 0) (AE 0)) (BR (AI (@g8 _) (AM (AU 0) m_len b8 (A1 (A0 2 (by first | exact aa1 rfl | exact aa0 (aa1 rfl) | exact aa0 (aa0 rfl))) (A2 0))) (A6 0) (AE 0))))) (AA (AF (AQ PySem.F.plainAttrs_str PySem.F.slot_str_join PySem.F.type_str_join (BP 0) (A7 0) (A1 (AD (@gm _) (AD (@gm _) (AR (AX 0) (A0 2 (by first | exact aa1 rfl | exact aa0 (aa1 rfl) | exact aa0 (aa0 rfl))) (AT 0) (AS (A0 4 (by first | exact aa1 rfl | exact aa0 (aa1 rfl) | exact aa0 (aa0 rfl))))) (AN (A1 (A7 0) (A2 0)))) (AR (AX 0) (A0 2 (by first | exact aa1 rfl | exact aa0 (aa1 rfl) | exact aa0 (aa0 rfl))) (AS (A0 4 (by first | exact aa1 rfl | exact aa0 (aa1 rfl) | exact aa0 (aa0 rfl)))) (AT 0))) (A2 0))))) (AK 0)) (BD (AJ (AW (BO (AI (AL 0) (A0 3 (by first | exact aa1 rfl | exact aa0 (aa1 rfl) | exact aa0 (aa0 rfl))) (A6 0) (AE 0)) (BR (AI (AL 0) (AB (AG 0) (A0 2 (by first | exact aa1 rfl | exact aa0 (aa1 rfl) | exact aa0 (aa0 rfl))) (A6 0)) (A7 0) (AE 0))))) (AA (AF (AD (B7 0) (A0 0 (by first | exact aa1 rfl | exact aa0 (aa1 rfl) | exact aa0 (aa0 rfl))) (AD (@ik _) (A7 0) (A6 0))))) (AK 0)) (A9 (AJ (AI (@g8 _) (AM (AU 0) m_len b8 (A1 (A0 2 (by first | exact aa1 rfl | exact aa0 (aa1 rfl) | exact aa0 (aa0 rfl))) (A2 0))) (A6 0) (AE 0)) (AA (AF (AQ PySem.F.plainAttrs_str PySem.F.slot_str_join PySem.F.type_str_join (BP 0) (A7 0) (A1 (AD (@gm _) (AD (@gm _) (AR (AX 0) (A0 2 (by first | exact aa1 rfl | exact aa0 (aa1 rfl) | exact aa0 (aa0 rfl))) (AT 0) (AS (A0 4 (by first | exact aa1 rfl | exact aa0 (aa1 rfl) | exact aa0 (aa0 rfl))))) (AN (A1 (AC h_law_bad_word hr (A1 (A0 2 (by first | exact aa1 rfl | exact aa0 (aa1 rfl) | exact aa0 (aa0 rfl))) (A1 (A0 4 (by first | exact aa1 rfl | exact aa0 (aa1 rfl) | exact aa0 (aa0 rfl))) (A1 (A0 1 (by first | exact aa1 rfl | exact aa0 (aa1 rfl) | exact aa0 (aa0 rfl))) (A2 0))))) (A2 0)))) (AR (AX 0) (A0 2 (by first | exact aa1 rfl | exact aa0 (aa1 rfl) | exact aa0 (aa0 rfl))) (AS (AD (AO 0) (A0 4 (by first | exact aa1 rfl | exact aa0 (aa1 rfl) | exact aa0 (aa0 rfl))) (A6 0))) (AT 0))) (A2 0))))) (AK 0)) (AA (AF (A7 0)))))))))))))),?_⟩;rw[show start ["line","hand","words","style","at","some"] [.str r.line,.ref h]=[some (.str r.line),some (.ref h),none,none,none,none] from rfl];clear hu hu0 nd hr;push_cast [and_true];have sz:=sizeLine_eq;obtain ⟨es,l1,l17⟩:=gz ok;have pw:=PW.tx ok;have gr:=GR.of ok;have el:r.line=Txt.join " " (r.tx.map ag):=rfl;rw[es];generalize r.tx.map ag=ws at es el l1 l17 pw gr ⊢;have jl:=jlen pw (by omega);rw[←el] at jl;have lm:(ws.map V.str).length=ws.length:=aa2 _;refine ⟨by decide+kernel,by omega,λp hp=>?_⟩;have sp:=ae hp (.lst (ws.map V.str));have np:p≠h:=λe=>by obtain ⟨_,_,_,x1,_⟩:=id hh;rw[e,x1] at hp;cases hp
 refine az (hh.same sp) (by omega) (by decide) (by decide+kernel) λx H1 s1 hh1 x0 x10=>⟨_,.inl (SqL.of (s1 _ _ np aa)),?_⟩;rw[lm];have mx:0 < (if (ws.length:Int) - 1 > 1 then (ws.length:Int) - 1 else 1):=by split <;> omega
 refine az hh1 (by omega) mx (ab1 (acr _) (by split <;> omega)) λy H2 s2 hh2 y0 y1=>?_;push_cast [and_true];obtain ⟨at',ea,a1,a2⟩:∃at':Nat,1+y=(at':Int)∧1≤at'∧(1 < ws.length→at' < ws.length):=⟨(1+y).toNat,by omega,by omega,λh=>by split at y1 <;> omega⟩;rw[ea];have S2:ak h H H2:=(ak.of sp).trans (s1.trans s2);have hp2:H2 p=some (.lst (ws.map V.str)):=s2 _ _ np (s1 _ _ np aa);have fin:∀(ws':List Str) (H':Hp),ak h H2 H'→aw H' h (n+10)→bo ws'=false→ws'.length≤40→(∀w∈ws',PW w)→(2≤ws'.length∨∃w,ws'=[w]∧w≠"")→Q (.str (Txt.join " " ws')) H':=λws' H' s' hh' h1 h2 h3 h4=>q _ H' (S2.trans s') hh' (BadL.of h1 h2 h3 h4);have at0:atI (ws.map V.str) 0=some (.str (ws.getD 0 "")):=bp (k:=0) (by omega);have jb:∀ws':List Str,(∀w∈ws',PW w)→ws'.length≤40→(ws'.map (·.length)).sum+ws'.length*(Str.ofString " ").length≤1000000:=λws' h1 h2=>by
  have:=(jlen h1 h2).1;show _+_*(S " ").length≤_
  omega
 have wne:ws≠[]:=λe=>by rw[e] at l1;exact absurd l1 (by decide)
 have hh9:aw H2 h (n+10):=hh2.le (by omega);have one1:(Str.ofString " ").length=1:=by decide+kernel
 refine cf (λσ' H'=>σ'=[some (.str r.line),some (.ref h),some (.ref p),some (.int x),some (.int (at':Int)),none]∧H'=H2) ?_ ?_
 ·push_cast [and_true];refine ⟨rfl,bc (λc=>⟨by show (6:Nat)≤sizeLine;decide,λp1 hp1=>?_⟩) λc=>trivial⟩;have d1:=ae hp1 (.lst [V.str (Str.ofString "out"),V.str (Str.ofString "put"),V.str (Str.ofString "load"),V.str (Str.ofString "x1"),V.str (Str.ofString "Any"),V.str (Str.ofString "00")]);have np1:p1≠h:=λe=>by obtain ⟨_,_,_,x1,_⟩:=id hh2;rw[e,x1] at hp1;cases hp1
  have n1p:p1≠p:=(aq hp2 hp1).symm;refine cf (λσ' H'=>∃(p':Addr) (zs:List Str),σ'=[some (.str r.line),some (.ref h),some (.ref p),some (.int x),some (.int (at':Int)),some (.ref p')]∧ao H2 H'∧p'≠h∧H' p'=some (.lst (zs.map V.str))∧1≤zs.length∧zs.length≤10∧∀z∈zs,∃xs:List Str,z=Txt.join " " xs∧xs≠[]∧xs.length≤3∧(∀w∈xs,PW w)∧(ws.getD 0 ""=S "rule"→∃w∈xs,shB w=false)) ?_ ?_
  ·push_cast [and_true];have six:∀z∈([Str.ofString "out",Str.ofString "put",Str.ofString "load",Str.ofString "x1",Str.ofString "Any",Str.ofString "00"]:List Str),∃xs:List Str,z=Txt.join " " xs∧xs≠[]∧xs.length≤3∧(∀w∈xs,PW w)∧(ws.getD 0 ""=S "rule"→∃w∈xs,shB w=false):=λz hz=>⟨[z],(Bd.join_one z).symm,by simp,by show 1≤3;decide,λw hw=>by rw[List.mem_singleton.mp hw];exact PW.of (De z hz).1,λ_=>⟨z,List.mem_singleton.mpr rfl,(De z hz).2⟩⟩;refine ah (d1 _ _ hp2) at0 ⟨rfl,?_⟩;by_cases hr:ws.getD 0 ""=S "rule"
   ·rw[if_neg (by rw[hr];simp[S])];exact ⟨d1,np1,[Str.ofString "out",Str.ofString "put",Str.ofString "load",Str.ofString "x1",Str.ofString "Any",Str.ofString "00"],aa,by show 1≤6;decide,by show 6≤10;decide,six⟩
   ·rw[if_pos (by simpa [S] using hr)];refine ⟨by show (4:Nat)≤sizeLine;decide,λp2 hp2'=>dv (ae hp2' _ _ _ aa) aa (by show 6+4≤sizeLine;omega) λp3 hp3=>?_⟩;have d2:=ae hp2' (.lst [V.str (Str.ofString "a"),V.str (Str.ofString "abc"),V.str (Str.ofString "put out 1"),V.str (Str.ofString "neg out h1")]);have d3:=ae hp3 (.lst ([V.str (Str.ofString "out"),V.str (Str.ofString "put"),V.str (Str.ofString "load"),V.str (Str.ofString "x1"),V.str (Str.ofString "Any"),V.str (Str.ofString "00")]++[V.str (Str.ofString "a"),V.str (Str.ofString "abc"),V.str (Str.ofString "put out 1"),V.str (Str.ofString "neg out h1")]));refine ⟨p3,rfl,d1.trans (d2.trans d3),λe=>?_,[Str.ofString "out",Str.ofString "put",Str.ofString "load",Str.ofString "x1",Str.ofString "Any",Str.ofString "00"]++[Str.ofString "a",Str.ofString "abc",Str.ofString "put out 1",Str.ofString "neg out h1"],aa,by show 1≤10;decide,by show 10≤10;decide,λz hz=>?_⟩
    ·obtain ⟨_,_,_,x1,_⟩:=id (hh2.same (d1.trans d2));rw[e,x1] at hp3;cases hp3
    ·rcases List.mem_append.mp hz with hz | hz
     ·exact six z hz
     ·simp only[aav,aar,or_false] at hz;rcases hz with rfl | rfl | rfl | rfl
      ·exact ⟨[Str.ofString "a"],by decide+kernel,by simp,by show 1≤3;decide,λw hw=>PW.of (lr w (by simp only[ad2] at hw;simp[hw])),λe=>absurd e hr⟩
      ·exact ⟨[Str.ofString "abc"],by decide+kernel,by simp,by show 1≤3;decide,λw hw=>PW.of (lr w (by simp only[ad2] at hw;simp[hw])),λe=>absurd e hr⟩
      ·exact ⟨[Str.ofString "put",Str.ofString "out",Str.ofString "1"],by decide+kernel,by simp,by show 3≤3;decide,λw hw=>PW.of (lr w (by simp only[aav,aar,or_false] at hw;rcases hw with h | h | h <;> simp[h])),λe=>absurd e hr⟩
      ·exact ⟨[Str.ofString "neg",Str.ofString "out",Str.ofString "h1"],by decide+kernel,by simp,by show 3≤3;decide,λw hw=>PW.of (lr w (by simp only[aav,aar,or_false] at hw;rcases hw with h | h | h <;> simp[h])),λe=>absurd e hr⟩
  ·rintro σ' H' ⟨p',zs,rfl,s',np',hz',z1,z10,hz⟩;push_cast [and_true];have zm:(zs.map V.str).length=zs.length:=aa2 _;refine ⟨by omega,_,.inl (SqL.of hz'),az (hh2.same s') (by omega) (by omega) (ab1 (acr _) (by omega)) λk H4 s4 hh4 k0 k1=>?_⟩;obtain ⟨w,hw,ha⟩:=je (zs:=zs) k0 (by omega);obtain ⟨xs,ex,x1,x3,xp,xr⟩:=hz w hw;have xj:=(jlen xp (by omega)).2;rw[←ex] at xj;have la:∀a b:Str,(a++b).length=a.length+b.length:=λa b=>abu;refine ah (s4 _ _ np' hz') ha ⟨_,rfl,by rw[la];omega,?_⟩;have e:r.line++Str.ofString " "++w=Txt.join " " (ws++xs):=by
    rw[fj wne x1,←el,←ex];rfl
   rw[e];refine fin _ _ ((ak.of s').trans s4) (hh4.le (by omega)) (qt gr x1 λhr=>.inl (xr hr)) (by rw[aa4];omega) (λu hu=>(List.mem_append.mp hu).elim (pw u) (xp u)) (.inl ?_);have:0 < xs.length:=List.length_pos_iff.mpr x1;rw[aa4];omega
 rintro σ' H' ⟨rfl,rfl⟩;refine cf (λσ' H3=>σ'=[some (.str r.line),some (.ref h),some (.ref p),some (.int x),some (.int (at':Int)),none]∧H3=H') ?_ ?_
 ·push_cast [and_true];refine ⟨rfl,bc (λc=>⟨_,.inl (SqL.of hp2),?_⟩) λc=>trivial⟩;rw[lm];refine bc (λc1=>⟨_,.inl (SqL.of hp2),by show (2:Nat)≤sizeLine;decide,λp1 hp1=>ah (ae hp1 _ _ _ hp2) at0 ⟨rfl,?_⟩⟩) λc1=>trivial;rw[lm];have d1:=ae hp1 (.lst [V.int ((ws.length:Int) - 1),V.int 5]);obtain ⟨m,em,hm⟩:∃m:Nat,atI [V.int ((ws.length:Int) - 1),V.int 5] (if V.str (ws.getD 0 "")=V.str (Str.ofString "rule") then 1 else 0)=some (V.int (m:Int))∧m=(if ws.getD 0 ""=S "rule" then 5 else ws.length - 1):=by
   by_cases hr:ws.getD 0 ""=S "rule"
   ·exact ⟨5,by rw[if_pos (show V.str (ws.getD 0 "")=V.str (Str.ofString "rule") from congrArg V.str hr)];rfl,by rw[if_pos hr]⟩
   ·refine ⟨ws.length - 1,?_,by rw[if_neg hr]⟩;rw[if_neg (show ¬V.str (ws.getD 0 "")=V.str (Str.ofString "rule") from λe=>hr (V.str.inj e)),show ((ws.length - 1:Nat):Int)=(ws.length:Int) - 1 by omega];rfl
  have ml:m≤ws.length∧1≤m:=by
   rw[hm];split
   ·rename_i hr
    have:=gr_six gr hr;omega
   ·omega
  refine ah aa em ⟨_,SqL.of (d1 _ _ hp2),λp2 hp2'=>⟨ws.take m,?_,?_,?_⟩⟩
  ·rw[jf _ m (by rw[lm];omega),←abv];exact SqL.of aa
  ·exact jb _ (λw hw=>pw w (ab9 hw)) (by rw[aaa];omega)
  ·refine fin _ _ (ak.of (d1.trans (ae hp2' _))) (hh9.same (d1.trans (ae hp2' _))) (by rw[hm];exact G2 gr (by omega)) (by rw[aaa];omega) (λw hw=>pw w (ab9 hw)) ?_;by_cases h2:2≤m
   ·exact .inl (by rw[aaa];omega)
   ·have m1:m=1:=by omega
    refine .inr ⟨ws.getD 0 "",?_,Hr gr (by omega)⟩;rw[m1];match ws,wne with
    | a::r,_=>rfl
 rintro σ' H3 ⟨rfl,rfl⟩;push_cast [and_true];refine ⟨rfl,bc (λc=>⟨by show (6:Nat)≤sizeLine;decide,λp1 hp1=>?_⟩) λc=>⟨rfl,bc (λc=>?_) λc=>⟨rfl,bc (λc=>?_) λc=>?_⟩⟩⟩
 ·have d1:=ae hp1 (.lst [V.str (Str.ofString "kinds"),V.str (Str.ofString "Rule"),V.str (Str.ofString "do"),V.str (Str.ofString "Kind"),V.str (Str.ofString "rul"),V.str (Str.ofString "add")]);have np1:p1≠h:=λe=>by obtain ⟨_,_,_,x1,_⟩:=id hh2;rw[e,x1] at hp1;cases hp1
  refine az (hh2.same d1) (by omega) (by decide) (by decide+kernel) λk H4 s4 hh4 k0 k6=>?_;obtain ⟨w,hw,ha⟩:=je (zs:=[Str.ofString "kinds",Str.ofString "Rule",Str.ofString "do",Str.ofString "Kind",Str.ofString "rul",Str.ofString "add"]) k0 (by show k < 6;omega);obtain ⟨w1,w2,w3,w4,w5⟩:=Lk w hw;refine ah (s4 _ _ np1 aa) ha ⟨by show (1:Nat)≤sizeLine;decide,λp2 hp2'=>⟨_,SqL.of (ae hp2' _ _ _ (s4 _ _ np (d1 _ _ hp2))),λp3 hp3=>?_⟩⟩;rw[show ck (ws.map V.str) (some 1) none=(ws.drop 1).map V.str from cx ws 1];have d2:=ae hp2' (.lst [V.str w]);have d3:=ae hp3 (.lst ((ws.drop 1).map V.str));refine dv (d3 _ _ aa) aa (by rw[aa2,aaf];show 1+(ws.length - 1)≤sizeLine;omega) λp4 hp4=>⟨p4,rfl,w::ws.drop 1,SqL.of aa,?_,?_⟩
  ·exact jb _ (λu hu=>(List.mem_cons.mp hu).elim (λe=>by rw[e];exact PW.of w1) λhu=>pw u (ab8 hu)) (by rw[aa8,aaf];omega)
  ·have d4:=ae hp4 (.lst ([V.str w]++(ws.drop 1).map V.str));have dd:=d2.trans (d3.trans d4);exact fin _ _ ((ak.of d1).trans (s4.trans (ak.of dd))) ((hh4.same dd).le (by omega)) (jn w2 w3 w4) (by rw[aa8,aaf];omega) (λu hu=>(List.mem_cons.mp hu).elim (λe=>by rw[e];exact PW.of w1) λhu=>pw u (ab8 hu)) (by
    by_cases h2:2≤ws.length
    ·exact .inl (by rw[aa8,aaf];omega)
    ·exact .inr ⟨w,by rw[acq (by omega)],w5⟩)
 ·refine ⟨by omega,?_⟩;have e:Str.ofString " "++r.line=Txt.join " " ([S ""]++ws):=by
   rw[fj (by simp) wne,Bd.join_one,←el,show S ""++S " "=Str.ofString " " by decide+kernel]
  rw[e];refine fin _ _ (ak.refl _ _) hh9 (jn bw.2.2.2.2.2.1 bw.2.2.2.2.2.2.1 bw.2.2.2.2.2.2.2) (by rw[aa4];show 1+ws.length≤40;omega) (λu hu=>?_) (.inl (by rw[aa4];show 2≤1+ws.length;omega));rcases List.mem_append.mp hu with hu | hu
  ·rw[List.mem_singleton.mp hu];exact PW.of (by decide+kernel)
  ·exact pw u hu
 ·refine ⟨by omega,?_⟩;have e:r.line++Str.ofString " "=Txt.join " " (ws++[S ""]):=by
   rw[fj wne (by simp),Bd.join_one,←el,sempty];rfl
  rw[e];refine fin _ _ (ak.refl _ _) hh9 (qt gr (by simp) λ_=>.inl ⟨S "",List.mem_singleton.mpr rfl,bw.2.2.2.2.1⟩) (by rw[aa4];show ws.length+1≤40;omega) (λu hu=>?_) (.inl (by rw[aa4];show 2≤ws.length+1;omega));rcases List.mem_append.mp hu with hu | hu
  ·exact pw u hu
  ·rw[List.mem_singleton.mp hu];exact PW.of (by decide+kernel)
 ·have cutA:∀m:Nat,m≤ws.length→ck (ws.map V.str) none (some (m:Int))=(ws.take m).map V.str:=λm hm=>by rw[jf _ m (by rw[lm];exact hm),←abv]
  have midw:∀(u w:Str),PW w→u∈ws.take at'++w::ws.drop at'→PW u:=λu w hw hu=>by
   rcases List.mem_append.mp hu with hu | hu
   ·exact pw u (ab9 hu)
   ·rcases List.mem_cons.mp hu with e | hu
    ·rw[e];exact hw
    ·exact pw u (ab8 hu)
  have midw1:∀(u w:Str),PW w→u∈ws.take at'++w::ws.drop (at'+1)→PW u:=λu w hw hu=>by
   rcases List.mem_append.mp hu with hu | hu
   ·exact pw u (ab9 hu)
   ·rcases List.mem_cons.mp hu with e | hu
    ·rw[e];exact hw
    ·exact pw u (ab8 hu)
  have cutB:∀m:Nat,ck (ws.map V.str) (some (m:Int)) none=(ws.drop m).map V.str:=λm=>cx ws m;refine cf (λσ' H4=>σ'=[some (.str r.line),some (.ref h),some (.ref p),some (.int x),some (.int (at':Int)),none]∧H4=H3) ?_ ?_
  ·push_cast [and_true];refine ⟨rfl,bc (λc=>⟨_,.inl (SqL.of hp2),?_⟩) λc=>trivial⟩;rw[lm];refine bc (λc1=>?_) λc1=>trivial;have a2':=a2 (by omega);refine ⟨_,SqL.of hp2,λp1 hp1=>⟨by show (1:Nat)≤sizeLine;decide,λp2 hp2'=>?_⟩⟩;rw[cutA at' (by omega)] at hp2' ⊢;have d1:=ae hp1 (.lst ((ws.take at').map V.str));have d2:=ae hp2' (.lst [V.str (Str.ofString "")]);refine dv (d2 _ _ aa) aa (by rw[aa2,aaa];show _+1≤sizeLine;omega) λp3 hp3=>⟨_,SqL.of ((d1.trans (d2.trans (ae hp3 _))) _ _ hp2),λp4 hp4=>?_⟩;rw[cutB at'];have d3:=ae hp3 (.lst ((ws.take at').map V.str++[V.str (Str.ofString "")]));have d4:=ae hp4 (.lst ((ws.drop at').map V.str));refine dv (d4 _ _ aa) aa (by rw[aa4,aa2,aa2,aaa,aaf];show _+1+_≤sizeLine;omega) λp5 hp5=>⟨p5,rfl,ws.take at'++S ""::ws.drop at',SqL.of ?_,?_,?_⟩
   ·rw[aa,aad,aao,acn];rfl
   ·exact jb _ (λu hu=>midw u (S "") (PW.of (by decide+kernel)) hu) (by rw[aa4,aa8,aaa,aaf];omega)
   ·have d5:=ae hp5 (.lst (((ws.take at').map V.str++[V.str (Str.ofString "")])++(ws.drop at').map V.str));have dd:=d1.trans (d2.trans (d3.trans (d4.trans d5)));exact fin _ _ (ak.of dd) (hh9.same dd) (G4 gr a1 a2') (by rw[aa4,aa8,aaa,aaf];omega) (λu hu=>midw u (S "") (PW.of (by decide+kernel)) hu) (.inl (by rw[aa4,aa8,aaa,aaf];omega))
  rintro σ' H4 ⟨rfl,rfl⟩;refine cf (λσ' H5=>σ'=[some (.str r.line),some (.ref h),some (.ref p),some (.int x),some (.int (at':Int)),none]∧H5=H4) ?_ ?_
  ·push_cast [and_true];refine ⟨rfl,bc (λc=>ah hp2 at0 ⟨rfl,?_⟩) λc=>trivial⟩;refine bc (λc1=>?_) λc1=>rfl;have hr:ws.getD 0 ""=S "rule":=V.str.inj c1;refine ⟨by decide+kernel,by rw[show (i7 (Str.ofString " any") (abe 12)).length=48 by decide+kernel];omega,?_⟩;have e:r.line++i7 (Str.ofString " any") (abe 12)=Txt.join " " (ws++abd 12 (S "any")):=by
    rw[fj wne (by simp),←el,Bp,show S " "++Txt.join " " (abd 12 (S "any"))=i7 (Str.ofString " any") (abe 12) by decide+kernel]
   rw[e];refine fin _ _ (ak.refl _ _) hh9 (qt gr (by simp) λ_=>.inr (by rw[abi];exact aa3 _)) (by rw[aa4,abi];omega) (λu hu=>(List.mem_append.mp hu).elim (pw u) λhu=>?_) (.inl (by rw[aa4,abi];omega));rw[List.eq_of_mem_replicate hu];exact PW.of (by decide+kernel)
  rintro σ' H5 ⟨rfl,rfl⟩;push_cast [and_true];refine ⟨_,.inl (SqL.of hp2),?_⟩;rw[lm];refine bc (λc1=>?_) λc1=>?_
  ·have a2':=a2 (by omega);refine ⟨_,SqL.of hp2,λp1 hp1=>?_⟩;rw[cutA at' (by omega)];have d1:=ae hp1 (.lst ((ws.take at').map V.str));have np1:p1≠h:=λe=>by obtain ⟨_,_,_,x1,_⟩:=id hh2;rw[e,x1] at hp1;cases hp1
   refine ⟨p,h,at',_,ws,rfl,d1 _ _ hp2,by omega,hh2.same d1,by omega,np,gr,a1,a2',λw H6 s6 hh6 wp wb=>⟨by show (1:Nat)≤sizeLine;decide,λp2 hp2'=>?_⟩⟩;have d2:=ae hp2' (.lst [V.str w]);refine dv (d2 _ _ (s6 _ _ np1 aa)) aa (by rw[aa2,aaa];show _+1≤sizeLine;omega) λp3 hp3=>⟨_,SqL.of ((d2.trans (ae hp3 _)) _ _ (s6 _ _ np (d1 _ _ hp2))),λp4 hp4=>?_⟩;rw[show ((at':Int)+1)=((at'+1:Nat):Int) by omega,cutB (at'+1)];have d3:=ae hp3 (.lst ((ws.take at').map V.str++[V.str w]));have d4:=ae hp4 (.lst ((ws.drop (at'+1)).map V.str));refine dv (d4 _ _ aa) aa (by rw[aa4,aa2,aa2,aaa,aaf];show _+1+_≤sizeLine;omega) λp5 hp5=>⟨p5,rfl,ws.take at'++w::ws.drop (at'+1),SqL.of ?_,?_,?_⟩
   ·rw[aa,aad,aao,acn];rfl
   ·exact jb _ (λu hu=>midw1 u w wp hu) (by rw[aa4,aa8,aaa,aaf];omega)
   ·have d5:=ae hp5 (.lst (((ws.take at').map V.str++[V.str w])++(ws.drop (at'+1)).map V.str));have dd:=d2.trans (d3.trans (d4.trans d5));exact fin _ _ ((ak.of d1).trans (s6.trans (ak.of dd))) ((hh6.same dd).le (by omega)) (J1 gr a1 a2' wb) (by rw[aa4,aa8,aaa,aaf];omega) (λu hu=>midw1 u w wp hu) (.inl (by rw[aa4,aa8,aaa,aaf];omega))
  ·have e:Str.ofString " "=Txt.join " " [S "",S ""]:=by decide+kernel
   rw[e];refine fin _ _ (ak.refl _ _) hh9 (jn bw.2.2.2.2.2.1 bw.2.2.2.2.2.2.1 bw.2.2.2.2.2.2.2) (by show 2≤40;decide) (λu hu=>?_) (.inl (aa3 _));have:u=S "":=by simpa using hu
   rw[this];exact PW.of (by decide+kernel)
noncomputable abbrev kn:Stmt:=top 62
theorem Dj:au ["text","caught","e"] ["text"] (af kn):=⟨rfl,rfl,rfl,by decide+kernel,rfl,by decide+kernel,by decide+kernel⟩
theorem Ki (G:Gs w K mg κ) (h_read_book:i6 P w K mg base k "read_book" ["text"] (oi κ)) (D:Def K mg "_law_row_of" kn ["text"]):Has P w K mg base (k+1) "_law_row_of" ["text"] xi:=by
 refine D.has Dj (λvs H Q E h=>?_) (λf cdv A outer s H vs Q E hr h=>?_)
 ·obtain ⟨_,_,rfl,_,_,_,_,_,_⟩:=h;rfl
 have nd:=Dj.nd;have hu:=br hr;have hu0:=aa9 hu;obtain ⟨z,m,rfl,hz,hl,hy,hG,hbad,q⟩:=h;have m_BadCover:=G.er.m_badCover;have m_BadDeed:=G.er.m_badDeed;have m_BadRow:=G.er.m_badRow;have m_BadShape:=G.er.m_badShape;have m_CoverError:=G.er.m_cov;have m_NoBox:=G.er.m_noBox;have m_NoCover:=G.er.m_noCover;have m_NoName:=G.er.m_noName;have m_NoTerm:=G.er.m_noTerm;have m_NoValue:=G.er.m_noValue;have m_Twice:=G.er.m_twice;have m_Unsound:=G.er.m_unsound;have m_ValueError:=G.m_ValueError;have m_bool:=G.m_bool;have m_int:=G.m_int;have m_isinstance:=G.m_isinstance;refine ⟨_,(A9 (AH 1 nd (by first | exact aa1 rfl | exact aa0 rfl) (@pe_non _ _ _) (by first | exact .inl rfl | exact .inr rfl | assumption)) (A9 (@ps_try _ _ _ 2 _ _ _ _ _ _ _ _ _ _ (ae2 _ (ae2 _ (ae2 _ (aay rfl (aay rfl rfl))))) nd rfl rfl rfl G.er.x_cov m_CoverError (@Ij _ _ _ _ _ _ _ _ _ _ _ h_read_book hr (A1 (A0 0 (by first | exact aa1 rfl | exact aa0 (aa1 rfl) | exact aa0 (aa0 rfl))) (A2 0)) (by rfl) (by decide+kernel) (by rfl) (by rfl) (by rfl)) (λ_=>(AA (AH 1 nd (by first | exact aa1 rfl | exact aa0 rfl) (A0 2 (by first | exact aa1 rfl | exact aa0 (aa1 rfl) | exact aa0 (aa0 rfl))) (by first | exact .inl rfl | exact .inr rfl | assumption)))) (by rfl) (by decide+kernel)) (A9 (AJ (B8 (AM (@vo _) m_isinstance cz (A1 (A0 1 (by first | exact aa1 rfl | exact aa0 (aa1 rfl) | exact aa0 (aa0 rfl))) (A1 (AV (A1 (B0 m_BadCover) (A1 (B0 m_BadDeed) (A1 (B0 m_BadShape) (A1 (B0 m_NoBox) (A1 (B0 m_NoCover) (A1 (B0 m_NoName) (A1 (B0 m_NoTerm) (A1 (B0 m_NoValue) (A1 (B0 m_Twice) (A1 (B0 m_Unsound) (A2 0)))))))))))) (A2 0))))) (AA (AF (C5 (@lj _) (A6 0)))) (AK 0)) (A9 (AJ (AW (BB (BK (B8 (AM (@wa _) m_isinstance cz (A1 (A0 1 (by first | exact aa1 rfl | exact aa0 (aa1 rfl) | exact aa0 (aa0 rfl))) (A1 (B0 m_BadRow) (A2 0)))))) (BM (BK (B8 (AM (@wo _) m_isinstance cz (A1 (A0 1 (by first | exact aa1 rfl | exact aa0 (aa1 rfl) | exact aa0 (aa0 rfl))) (A1 (CD m_ValueError vn) (A2 0))))))))) (AA (AF (C5 (@lj _) (A6 0)))) (AK 0)) (A9 (AJ (AW (BB (BK (B8 (AM (@nq _) m_isinstance cz (A1 (@xy _ _ _ _ _ (A0 1 (by first | exact aa1 rfl | exact aa0 (aa1 rfl) | exact aa0 (aa0 rfl))) rfl) (A1 (CD m_int uc) (A2 0)))))) (BM (B8 (AM (@nq _) m_isinstance cz (A1 (@xy _ _ _ _ _ (A0 1 (by first | exact aa1 rfl | exact aa0 (aa1 rfl) | exact aa0 (aa0 rfl))) rfl) (A1 (CD m_bool b_bool) (A2 0)))))))) (AA (AF (C5 (@lj _) (A6 0)))) (AK 0)) (AA (AF (@xy _ _ _ _ _ (A0 1 (by first | exact aa1 rfl | exact aa0 (aa1 rfl) | exact aa0 (aa0 rfl))) rfl)))))))),?_⟩;rw[show start ["text","caught","e"] [.str z]=[some (.str z),none,none] from rfl];clear hu hu0 nd hr;push_cast [and_true];have sz:=sizeLine_eq;push_cast [tTry,Ii];rcases hbad with ⟨rs,e1,e2,i,r,e3,e4,rfl⟩ | ⟨i,r,e1,e2,e3,rfl⟩
 ·refine ⟨z,rfl,hz,hl,hy,hG,.inl ⟨rs,e1,e2,.inr ⟨i,r,e3,e4,λdx H2 s2 hd=>?_⟩⟩⟩;refine ⟨κ.badRow,rfl,cbm κ,G.er.x_badRow,by rw[isC,decide_eq_true (rfl:κ.cov=κ.cov),ab4],λe he=>⟨by show (10:Nat)≤sizeLine;decide,λp hp=>?_⟩⟩;have s3:=ae he (XO e κ.badRow (some dx) false);have s4:=ae hp (.tup [V.ref κ.badCover,V.ref κ.badDeed,V.ref κ.badShape,V.ref κ.noBox,V.ref κ.noCover,V.ref κ.noName,V.ref κ.noTerm,V.ref κ.noValue,V.ref κ.twice,V.ref κ.unsound]);have he4:=s4 _ _ (aa (H:=H2) (a:=e) (o:=XO e κ.badRow (some dx) false));have hd4:=(s3.trans s4) _ _ hd;have hp4:upd (upd H2 e (XO e κ.badRow (some dx) false)) p (.tup [V.ref κ.badCover,V.ref κ.badDeed,V.ref κ.badShape,V.ref κ.noBox,V.ref κ.noCover,V.ref κ.noName,V.ref κ.noTerm,V.ref κ.noValue,V.ref κ.twice,V.ref κ.unsound]) p=some (.tup [V.ref κ.badCover,V.ref κ.badDeed,V.ref κ.badShape,V.ref κ.noBox,V.ref κ.noCover,V.ref κ.noName,V.ref κ.noTerm,V.ref κ.noValue,V.ref κ.twice,V.ref κ.unsound]):=aa;have hS4:=s2.trans (s3.trans s4);generalize upd (upd H2 e (XO e κ.badRow (some dx) false)) p (.tup [V.ref κ.badCover,V.ref κ.badDeed,V.ref κ.badShape,V.ref κ.noBox,V.ref κ.noCover,V.ref κ.noName,V.ref κ.noTerm,V.ref κ.noValue,V.ref κ.twice,V.ref κ.unsound])=H4 at he4 hd4 hp4 hS4 ⊢;have is4:XIs K H4 (.ref e) κ.badRow (cbm κ):=⟨G.er.x_badRow,e,some dx,false,rfl,he4,.inr ⟨dx,_,rfl,hd4⟩⟩;have er:=G.er;refine ⟨[κ.badCover,κ.badDeed,κ.badShape,κ.noBox,κ.noCover,κ.noName,κ.noTerm,κ.noValue,κ.twice,κ.unsound],hp4,λD hD=>?_,_,⟨_,_,is4,rfl⟩,?_⟩
  ·simp only[aav,aar,or_false] at hD;rcases hD with rfl | rfl | rfl | rfl | rfl | rfl | rfl | rfl | rfl | rfl
   ·exact ⟨_,er.x_badCover⟩
   ·exact ⟨_,er.x_badDeed⟩
   ·exact ⟨_,er.x_badShape⟩
   ·exact ⟨_,er.x_noBox⟩
   ·exact ⟨_,er.x_noCover⟩
   ·exact ⟨_,er.x_noName⟩
   ·exact ⟨_,er.x_noTerm⟩
   ·exact ⟨_,er.x_noValue⟩
   ·exact ⟨_,er.x_twice⟩
   ·exact ⟨_,er.x_unsound⟩
  rw[anyC (λD hD=>?_)]
  ·refine iteF ⟨κ.badRow,cbm κ,is4,⟨_,er.x_badRow⟩,?_⟩;rw[isC,decide_eq_true (rfl:κ.badRow=κ.badRow),ab3];rw[if_neg (by decide)];refine ⟨κ.badRow,cbm κ,is4,by decide+kernel,?_⟩;rw[er.x_badRow.hv,if_neg (by decide)];have fld:∀Q':VK,Q' (.int (r.1:Int)) H4→An K (Str.ofString "row") (j3 1) [some (V.str z),some (V.ref e),none] H4 Q':=λQ' h=>by
    simp only[An,su];exact ⟨.ref e,rfl,e,κ.badRow,dx,false,cbm κ,_,_,rfl,he4,hd4,er.x_badRow,G.w_BadRow,rfl,h⟩
   exact fld _ ⟨_,.int _,true,rfl,iteF (fld _ ⟨_,.int _,false,rfl,iteF (fld _ (q _ hS4))⟩)⟩
  ·simp only[aav,aar,or_false] at hD;rcases hD with rfl | rfl | rfl | rfl | rfl | rfl | rfl | rfl | rfl | rfl
   ·exact ⟨er.ne 3 5 rfl rfl (by decide),er.ne 3 0 rfl rfl (by decide)⟩
   ·exact ⟨er.ne 10 5 rfl rfl (by decide),er.ne 10 0 rfl rfl (by decide)⟩
   ·exact ⟨er.ne 9 5 rfl rfl (by decide),er.ne 9 0 rfl rfl (by decide)⟩
   ·exact ⟨er.ne 2 5 rfl rfl (by decide),er.ne 2 0 rfl rfl (by decide)⟩
   ·exact ⟨er.ne 4 5 rfl rfl (by decide),er.ne 4 0 rfl rfl (by decide)⟩
   ·exact ⟨er.ne 8 5 rfl rfl (by decide),er.ne 8 0 rfl rfl (by decide)⟩
   ·exact ⟨er.ne 1 5 rfl rfl (by decide),er.ne 1 0 rfl rfl (by decide)⟩
   ·exact ⟨er.ne 6 5 rfl rfl (by decide),er.ne 6 0 rfl rfl (by decide)⟩
   ·exact ⟨er.ne 7 5 rfl rfl (by decide),er.ne 7 0 rfl rfl (by decide)⟩
   ·exact ⟨er.ne 11 5 rfl rfl (by decide),er.ne 11 0 rfl rfl (by decide)⟩
 ·refine ⟨z,rfl,hz,hl,hy,hG,.inr ⟨i,r,e1,e2,e3,λdx H2 s2 hd=>?_⟩⟩;refine ⟨κ.badRow,rfl,cbm κ,G.er.x_badRow,by rw[isC,decide_eq_true (rfl:κ.cov=κ.cov),ab4],λe he=>⟨by show (10:Nat)≤sizeLine;decide,λp hp=>?_⟩⟩;have s3:=ae he (XO e κ.badRow (some dx) false);have s4:=ae hp (.tup [V.ref κ.badCover,V.ref κ.badDeed,V.ref κ.badShape,V.ref κ.noBox,V.ref κ.noCover,V.ref κ.noName,V.ref κ.noTerm,V.ref κ.noValue,V.ref κ.twice,V.ref κ.unsound]);have he4:=s4 _ _ (aa (H:=H2) (a:=e) (o:=XO e κ.badRow (some dx) false));have hd4:=(s3.trans s4) _ _ hd;have hp4:upd (upd H2 e (XO e κ.badRow (some dx) false)) p (.tup [V.ref κ.badCover,V.ref κ.badDeed,V.ref κ.badShape,V.ref κ.noBox,V.ref κ.noCover,V.ref κ.noName,V.ref κ.noTerm,V.ref κ.noValue,V.ref κ.twice,V.ref κ.unsound]) p=some (.tup [V.ref κ.badCover,V.ref κ.badDeed,V.ref κ.badShape,V.ref κ.noBox,V.ref κ.noCover,V.ref κ.noName,V.ref κ.noTerm,V.ref κ.noValue,V.ref κ.twice,V.ref κ.unsound]):=aa;have hS4:=s2.trans (s3.trans s4);generalize upd (upd H2 e (XO e κ.badRow (some dx) false)) p (.tup [V.ref κ.badCover,V.ref κ.badDeed,V.ref κ.badShape,V.ref κ.noBox,V.ref κ.noCover,V.ref κ.noName,V.ref κ.noTerm,V.ref κ.noValue,V.ref κ.twice,V.ref κ.unsound])=H4 at he4 hd4 hp4 hS4 ⊢;have is4:XIs K H4 (.ref e) κ.badRow (cbm κ):=⟨G.er.x_badRow,e,some dx,false,rfl,he4,.inr ⟨dx,_,rfl,hd4⟩⟩;have er:=G.er;refine ⟨[κ.badCover,κ.badDeed,κ.badShape,κ.noBox,κ.noCover,κ.noName,κ.noTerm,κ.noValue,κ.twice,κ.unsound],hp4,λD hD=>?_,_,⟨_,_,is4,rfl⟩,?_⟩
  ·simp only[aav,aar,or_false] at hD;rcases hD with rfl | rfl | rfl | rfl | rfl | rfl | rfl | rfl | rfl | rfl
   ·exact ⟨_,er.x_badCover⟩
   ·exact ⟨_,er.x_badDeed⟩
   ·exact ⟨_,er.x_badShape⟩
   ·exact ⟨_,er.x_noBox⟩
   ·exact ⟨_,er.x_noCover⟩
   ·exact ⟨_,er.x_noName⟩
   ·exact ⟨_,er.x_noTerm⟩
   ·exact ⟨_,er.x_noValue⟩
   ·exact ⟨_,er.x_twice⟩
   ·exact ⟨_,er.x_unsound⟩
  rw[anyC (λD hD=>?_)]
  ·refine iteF ⟨κ.badRow,cbm κ,is4,⟨_,er.x_badRow⟩,?_⟩;rw[isC,decide_eq_true (rfl:κ.badRow=κ.badRow),ab3];rw[if_neg (by decide)];refine ⟨κ.badRow,cbm κ,is4,by decide+kernel,?_⟩;rw[er.x_badRow.hv,if_neg (by decide)];have fld:∀Q':VK,Q' (.int (r.1:Int)) H4→An K (Str.ofString "row") (j3 1) [some (V.str z),some (V.ref e),none] H4 Q':=λQ' h=>by
    simp only[An,su];exact ⟨.ref e,rfl,e,κ.badRow,dx,false,cbm κ,_,_,rfl,he4,hd4,er.x_badRow,G.w_BadRow,rfl,h⟩
   exact fld _ ⟨_,.int _,true,rfl,iteF (fld _ ⟨_,.int _,false,rfl,iteF (fld _ (q _ hS4))⟩)⟩
  ·simp only[aav,aar,or_false] at hD;rcases hD with rfl | rfl | rfl | rfl | rfl | rfl | rfl | rfl | rfl | rfl
   ·exact ⟨er.ne 3 5 rfl rfl (by decide),er.ne 3 0 rfl rfl (by decide)⟩
   ·exact ⟨er.ne 10 5 rfl rfl (by decide),er.ne 10 0 rfl rfl (by decide)⟩
   ·exact ⟨er.ne 9 5 rfl rfl (by decide),er.ne 9 0 rfl rfl (by decide)⟩
   ·exact ⟨er.ne 2 5 rfl rfl (by decide),er.ne 2 0 rfl rfl (by decide)⟩
   ·exact ⟨er.ne 4 5 rfl rfl (by decide),er.ne 4 0 rfl rfl (by decide)⟩
   ·exact ⟨er.ne 8 5 rfl rfl (by decide),er.ne 8 0 rfl rfl (by decide)⟩
   ·exact ⟨er.ne 1 5 rfl rfl (by decide),er.ne 1 0 rfl rfl (by decide)⟩
   ·exact ⟨er.ne 6 5 rfl rfl (by decide),er.ne 6 0 rfl rfl (by decide)⟩
   ·exact ⟨er.ne 7 5 rfl rfl (by decide),er.ne 7 0 rfl rfl (by decide)⟩
   ·exact ⟨er.ne 11 5 rfl rfl (by decide),er.ne 11 0 rfl rfl (by decide)⟩
noncomputable abbrev xx:Stmt:=top 63
theorem scLaw:au ["script","hand","names","lines","items","k","deed","stray","spoilt","at","flags","due"] ["script"] (af xx):=⟨rfl,rfl,rfl,by decide+kernel,rfl,by decide+kernel,by decide+kernel⟩
theorem hasLaw {f:Addr} {fd:FuncData} (G:Gs w K mg κ) (h_law_any_deed:Has P w K mg base k "_law_any_deed" ["hand"] om) (h_law_draw:Has P w K mg base k "_law_draw" ["hand","limit"] di) (h_law_hand:Has P w K mg base k "_law_hand" ["cell","k"] vz) (h_law_line:Has P w K mg base k "_law_line" ["row"] Cn) (h_law_names:Has P w K mg base k "_law_names" ["hand","size"] ng) (h_law_row_of:Has P w K mg base k "_law_row_of" ["text"] xi) (h_law_rows:Has P w K mg base k "_law_rows" ["script","names"] (xw K)) (h_law_spoiled:Has P w K mg base k "_law_spoiled" ["line","hand"] vg) (h_read_book:i6 P w K mg base k "read_book" ["text"] (oi κ)) (F:Fun K "law" "law" xx f fd):h9 P w K mg base CX0 (k+1) f fd ["script"] (Ep K):=by
 refine F.ok scLaw (λvs H Q E h=>?_) (λcdv A outer s H vs Q E hr h=>?_)
 ·obtain ⟨_,_,rfl,_,_,_⟩:=h;rfl
 have nd:=scLaw.nd;have hu:=br hr;have hu0:=aa9 hu;obtain ⟨a,ns,rfl,ha,hn,q⟩:=h;have m_len:=G.m_len;have m_max:=G.m_max;have m_range:=G.m_range;have m_str:=G.m_str;have m_sum:=G.m_sum;refine ⟨_,(A9 (AH 1 nd (by first | exact aa1 rfl | exact aa0 rfl) (AC h_law_hand hr (A1 (AM (@j0 _ rfl) m_sum b_sum (A1 (A0 0 (by first | exact aa1 rfl | exact aa0 (aa1 rfl) | exact aa0 (aa0 rfl))) (A2 0))) (A1 (A6 0) (A2 0)))) (by first | exact .inl rfl | exact .inr rfl | assumption)) (A9 (AH 2 nd (by first | exact aa1 rfl | exact aa0 rfl) (AC h_law_names hr (A1 (A0 1 (by first | exact aa1 rfl | exact aa0 (aa1 rfl) | exact aa0 (aa0 rfl))) (A1 (A6 0) (A2 0)))) (by first | exact .inl rfl | exact .inr rfl | assumption)) (A9 (C1 3 nd (AY ["row"] [] [] trivial trivial) (BC (AC h_law_rows hr (A1 (A0 0 (by first | exact aa1 rfl | exact aa0 (aa1 rfl) | exact aa0 (aa0 rfl))) (A1 (AR (AX 0) (A0 2 (by first | exact aa1 rfl | exact aa0 (aa1 rfl) | exact aa0 (aa0 rfl))) (AT 0) (AS (A6 0))) (A2 0))))) (λ_ _ _=>(AZ 0 (show aba (["row"]:List Str) by decide+kernel) (by first | exact .inl rfl | exact .inr rfl | assumption))) (λ_ _ _=>(@lb _)) (λ_ _ _=>(AC h_law_line hr (A1 (A0 0 (by first | exact aa1 rfl | exact aa0 (aa1 rfl) | exact aa0 (aa0 rfl))) (A2 0)))) (by first | exact .inl rfl | exact .inr rfl | assumption)) (A9 (C1 4 nd (AY ["line"] [] [] trivial trivial) (BC (A0 3 (by first | exact aa1 rfl | exact aa0 (aa1 rfl) | exact aa0 (aa0 rfl)))) (λ_ _ _=>(AZ 0 (show aba (["line"]:List Str) by decide+kernel) (by first | exact .inl rfl | exact .inr rfl | assumption))) (λ_ _ _=>(@lb _)) (λ_ _ _=>(AN (A1 (A0 0 (by first | exact aa1 rfl | exact aa0 (aa1 rfl) | exact aa0 (aa0 rfl))) (A1 (A6 0) (A2 0))))) (by first | exact .inl rfl | exact .inr rfl | assumption)) (A9 (BX (C0 m_range (A1 (AC h_law_draw hr (A1 (A0 1 (by first | exact aa1 rfl | exact aa0 (aa1 rfl) | exact aa0 (aa0 rfl))) (A1 (A6 0) (A2 0)))) (A2 0))) (B6 5 nd (by first | exact aa1 rfl | exact aa0 rfl) (by first | exact .inl rfl | exact .inr rfl | assumption)) (A9 (AH 6 nd (by first | exact aa1 rfl | exact aa0 rfl) (AQ PySem.F.plainAttrs_str PySem.F.slot_str_join PySem.F.type_str_join (BP 0) (A7 0) (A1 (BH (AY ["word"] [] [] trivial trivial) (@Ce _ _ _ _ (AC h_law_any_deed hr (A1 (A0 1 (by first | exact aa1 rfl | exact aa0 (aa1 rfl) | exact aa0 (aa0 rfl))) (A2 0)))) (λ_ _ _=>(AZ 0 (show aba (["word"]:List Str) by decide+kernel) (by first | exact .inl rfl | exact .inr rfl | assumption))) (λ_ _ _=>(@lb _)) (λ_ _ _=>(B5 (BZ 0) m_str sy (A1 (A0 0 (by first | exact aa1 rfl | exact aa0 (aa1 rfl) | exact aa0 (aa0 rfl))) (A2 0))))) (A2 0))) (by first | exact .inl rfl | exact .inr rfl | assumption)) (A9 (AH 7 nd (by first | exact aa1 rfl | exact aa0 rfl) (AB (AG 0) (AD (@gm _) (AR (AX 0) (A0 2 (by first | exact aa1 rfl | exact aa0 (aa1 rfl) | exact aa0 (aa0 rfl))) (AT 0) (AS (A6 0))) (AR (AX 0) (A0 2 (by first | exact aa1 rfl | exact aa0 (aa1 rfl) | exact aa0 (aa0 rfl))) (AS (A6 0)) (AT 0))) (AC h_law_draw hr (A1 (A0 1 (by first | exact aa1 rfl | exact aa0 (aa1 rfl) | exact aa0 (aa0 rfl))) (A1 (A6 0) (A2 0))))) (by first | exact .inl rfl | exact .inr rfl | assumption)) (AA (BG (AQ PySem.F.plainAttrs_list PySem.F.slot_list_insert PySem.F.type_list_insert (@G1 _) (A0 4 (by first | exact aa1 rfl | exact aa0 (aa1 rfl) | exact aa0 (aa0 rfl))) (A1 (AC h_law_draw hr (A1 (A0 1 (by first | exact aa1 rfl | exact aa0 (aa1 rfl) | exact aa0 (aa0 rfl))) (A1 (AD (AO 0) (AM (AU 0) m_len b8 (A1 (A0 4 (by first | exact aa1 rfl | exact aa0 (aa1 rfl) | exact aa0 (aa0 rfl))) (A2 0))) (A6 0)) (A2 0)))) (A1 (AN (A1 (AD (B7 0) (AD (B7 0) (AD (B7 0) (A7 0) (A0 7 (by first | exact aa1 rfl | exact aa0 (aa1 rfl) | exact aa0 (aa0 rfl)))) (A7 0)) (A0 6 (by first | exact aa1 rfl | exact aa0 (aa1 rfl) | exact aa0 (aa0 rfl)))) (A1 (A6 0) (A2 0)))) (A2 0))))))))) (A9 (AH 8 nd (by first | exact aa1 rfl | exact aa0 rfl) (AC h_law_draw hr (A1 (A0 1 (by first | exact aa1 rfl | exact aa0 (aa1 rfl) | exact aa0 (aa0 rfl))) (A1 (A6 0) (A2 0)))) (by first | exact .inl rfl | exact .inr rfl | assumption)) (BD (AJ (AI (AL 0) (AM (AU 0) m_len b8 (A1 (A0 4 (by first | exact aa1 rfl | exact aa0 (aa1 rfl) | exact aa0 (aa0 rfl))) (A2 0))) (AM (AU 0) m_len b8 (A1 (A0 3 (by first | exact aa1 rfl | exact aa0 (aa1 rfl) | exact aa0 (aa0 rfl))) (A2 0))) (AE 0)) (AA (AH 8 nd (by first | exact aa1 rfl | exact aa0 rfl) (AM (@t5 _ rfl) m_max Ee (A1 (A6 0) (A1 (A0 8 (by first | exact aa1 rfl | exact aa0 (aa1 rfl) | exact aa0 (aa0 rfl))) (A2 0)))) (by first | exact .inl rfl | exact .inr rfl | assumption))) (AK 0)) (BD (AJ (AI (AL 0) (AM (AU 0) m_len b8 (A1 (A0 4 (by first | exact aa1 rfl | exact aa0 (aa1 rfl) | exact aa0 (aa0 rfl))) (A2 0))) (A6 0) (AE 0)) (AA (BG (AQ PySem.F.plainAttrs_list PySem.F.slot_list_append PySem.F.type_list_append (BQ 0) (A0 4 (by first | exact aa1 rfl | exact aa0 (aa1 rfl) | exact aa0 (aa0 rfl))) (A1 (AN (A1 (A7 0) (A1 (A6 0) (A2 0)))) (A2 0))))) (AK 0)) (A9 (BX (C0 m_range (A1 (A0 8 (by first | exact aa1 rfl | exact aa0 (aa1 rfl) | exact aa0 (aa0 rfl))) (A2 0))) (B6 5 nd (by first | exact aa1 rfl | exact aa0 rfl) (by first | exact .inl rfl | exact .inr rfl | assumption)) (A9 (AH 9 nd (by first | exact aa1 rfl | exact aa0 rfl) (AC h_law_draw hr (A1 (A0 1 (by first | exact aa1 rfl | exact aa0 (aa1 rfl) | exact aa0 (aa0 rfl))) (A1 (AM (AU 0) m_len b8 (A1 (A0 4 (by first | exact aa1 rfl | exact aa0 (aa1 rfl) | exact aa0 (aa0 rfl))) (A2 0))) (A2 0)))) (by first | exact .inl rfl | exact .inr rfl | assumption)) (AA (AJ (AI (AL 0) (AB (AG 0) (AB (AG 0) (A0 4 (by first | exact aa1 rfl | exact aa0 (aa1 rfl) | exact aa0 (aa0 rfl))) (A0 9 (by first | exact aa1 rfl | exact aa0 (aa1 rfl) | exact aa0 (aa0 rfl)))) (A6 0)) (A6 0) (AE 0)) (AA (C7 (AN (A1 (AC h_law_spoiled hr (A1 (AB (AG 0) (AB (AG 0) (A0 4 (by first | exact aa1 rfl | exact aa0 (aa1 rfl) | exact aa0 (aa0 rfl))) (A0 9 (by first | exact aa1 rfl | exact aa0 (aa1 rfl) | exact aa0 (aa0 rfl)))) (A6 0)) (A1 (A0 1 (by first | exact aa1 rfl | exact aa0 (aa1 rfl) | exact aa0 (aa0 rfl))) (A2 0)))) (A1 (A6 0) (A2 0)))) (C8 (A0 4 (by first | exact aa1 rfl | exact aa0 (aa1 rfl) | exact aa0 (aa0 rfl))) (A0 9 (by first | exact aa1 rfl | exact aa0 (aa1 rfl) | exact aa0 (aa0 rfl))) (@set_list _)))) (AK 0))))) (A9 (AH 10 nd (by first | exact aa1 rfl | exact aa0 rfl) (BH (AY ["item"] [] [] trivial trivial) (BC (A0 4 (by first | exact aa1 rfl | exact aa0 (aa1 rfl) | exact aa0 (aa0 rfl)))) (λ_ _ _=>(AZ 0 (show aba (["item"]:List Str) by decide+kernel) (by first | exact .inl rfl | exact .inr rfl | assumption))) (λ_ _ _=>(@lb _)) (λ_ _ _=>(AB (@ma _ K rfl) (A0 0 (by first | exact aa1 rfl | exact aa0 (aa1 rfl) | exact aa0 (aa0 rfl))) (A6 0)))) (by first | exact .inl rfl | exact .inr rfl | assumption)) (A9 (C1 11 nd (AY ["k"] ["flags"] [10] (aay rfl trivial) (aay (aay rfl (aay rfl rfl)) trivial)) (C0 m_range (A1 (AM (AU 0) m_len b8 (A1 (A0 10 (by first | exact aa1 rfl | exact aa0 (aa1 rfl) | exact aa0 (aa0 rfl))) (A2 0))) (A2 0))) (λ_ _ _=>(AZ 0 (show aba (["k","flags"]:List Str) by decide+kernel) (by first | exact .inl rfl | exact .inr rfl | assumption))) (λ_ _ _=>(@pif1 _ _ _ (AI (AL 0) (AB (@ma _ K rfl) (A0 1 (by first | exact aa1 rfl | exact aa0 (aa1 rfl) | exact aa0 (aa0 rfl))) (A0 0 (by first | exact aa1 rfl | exact aa0 (aa1 rfl) | exact aa0 (aa0 rfl)))) (AM (@Bt _ K rfl rfl) m_max Ee (A1 (A0 1 (by first | exact aa1 rfl | exact aa0 (aa1 rfl) | exact aa0 (aa0 rfl))) (A2 0))) (AE 0)))) (λ_ _ _=>(A0 0 (by first | exact aa1 rfl | exact aa0 (aa1 rfl) | exact aa0 (aa0 rfl)))) (by first | exact .inl rfl | exact .inr rfl | assumption)) (A9 (AJ (AW (BO (AI (@g8 _) (AM (@u9 _ rfl) m_max Ee (A1 (A0 10 (by first | exact aa1 rfl | exact aa0 (aa1 rfl) | exact aa0 (aa0 rfl))) (A2 0))) (A6 0) (AE 0)) (BR (AI (@rf _) (AC h_law_row_of hr (A1 (AQ PySem.F.plainAttrs_str PySem.F.slot_str_join PySem.F.type_str_join (BP 0) (A7 0) (A1 (BH (AY ["item"] [] [] trivial trivial) (BC (A0 4 (by first | exact aa1 rfl | exact aa0 (aa1 rfl) | exact aa0 (aa0 rfl)))) (λ_ _ _=>(AZ 0 (show aba (["item"]:List Str) by decide+kernel) (by first | exact .inl rfl | exact .inr rfl | assumption))) (λ_ _ _=>(@lb _)) (λ_ _ _=>(AB (@ma _ K rfl) (A0 0 (by first | exact aa1 rfl | exact aa0 (aa1 rfl) | exact aa0 (aa0 rfl))) (A6 0)))) (A2 0))) (A2 0))) (AD (AO 0) (AB (AG 0) (A0 11 (by first | exact aa1 rfl | exact aa0 (aa1 rfl) | exact aa0 (aa0 rfl))) (A6 0)) (A6 0)) (AE 0))))) (AA (AF (BN 0))) (AK 0)) (A9 (BG (@Lf _ _ _ _ _ _ _ _ _ _ h_read_book hr (A1 (AQ PySem.F.plainAttrs_str PySem.F.slot_str_join PySem.F.type_str_join (BP 0) (A7 0) (A1 (A0 3 (by first | exact aa1 rfl | exact aa0 (aa1 rfl) | exact aa0 (aa0 rfl))) (A2 0))) (A2 0)) (by rfl) (by decide+kernel) (by rfl) (by rfl))) (AA (AF (BN 0)))))))))))))))),?_⟩;rw[show start ["script","hand","names","lines","items","k","deed","stray","spoilt","at","flags","due"] [.ref a]=[some (.ref a),none,none,none,none,none,none,none,none,none,none,none] from rfl];clear hu hu0 nd hr;push_cast [and_true];have sz:=sizeLine_eq;refine ⟨ns,ha,ns.sum,0,rfl,by omega,λh H1 s1 hh1 hA=>⟨h,rfl,hA,λnl zs H2 s2 hnl hN h24 hnd hnm hh2=>⟨nl,rfl,_,SqL.of hN,λp hp=>?_⟩⟩⟩;have zl:(zs.map V.str).length=24:=by rw[aa2];exact h24
 have c20:ck (zs.map V.str) none (some 20)=(zs.take 20).map V.str:=by
  have:=jf (zs.map V.str) 20 (by omega);rw[←abv] at this;exact this
 rw[c20];have nlh:nl≠h:=λe=>by obtain ⟨_,_,_,x1,_⟩:=id hA;rw[e,x1] at hnl;cases hnl
 have S2:ao H H2:=ak.fresh ((ak.of s1).trans s2) hh1;have d0:=ae hp (.lst ((zs.take 20).map V.str));refine ⟨a,p,ns,zs.take 20,rfl,(S2.trans d0).seq ha,hn,aa,by rw[aaa];omega,λz hz=>hnm z (ab9 hz),λll rs H3 s3 hll hT hRn=>⟨ll,rfl,?_⟩⟩;have S3:=(S2.trans d0).trans s3;have hh3:=hh2.same (d0.trans s3);have hN3:=(d0.trans s3) _ _ hN;obtain ⟨ps,p1,p2⟩:=hll;have p2l:ps.length=rs.length:=by rw[p2.1,aa2]
 have rn:=hT.2.1;refine ⟨⟨_,SqL.of p1⟩,λln hln=>gy (λi ys=>ys=((rs.take i).map Rw.line).map V.str) (SqL.of p1) (by rw[aa2];omega) hln rfl (λi x ys H4 G' K' hx hP hl2 hS hG hK=>?_) λys H4 hP hl2 hS hD2=>?_⟩
 ·obtain ⟨t,ht,rfl⟩:=d7 hx;have hi:i < rs.length:=by
   have:=(List.getElem?_eq_some_iff.mp ht).1;omega
  have hri:rs[i]?=some rs[i]:=aa5 hi;push_cast [and_true];refine ⟨t,rs[i],rfl,hS _ _ (p2.2 i t _ ht (by rw[aag,hri];rfl)),hT.1 _ (aaw hi),λH5 s5=>hK _ _ s5 ?_⟩;rw[hP,aax,hri,aad,aad];rfl
 rw[aa2,p2l,aat] at hP;subst hP;have S4:=S3.trans hS;have hh4:=hh3.same hS;have hN4:=hS _ _ hN3;obtain ⟨R,eR⟩:∃R,R=(zs.take 20).drop 8:=⟨_,rfl⟩;rw[←eR] at hRn;refine ⟨⟨_,SqL.of hD2⟩,λil hil=>?_⟩;have nli:ln≠il:=aq hD2 hil;refine Iy (λi ys H5=>ao H4 H5∧∃qs:List Addr,ys=qs.map V.ref∧qs.length=i∧∀(j:Nat) (p:Addr) (x:Itm),qs[j]?=some p→((rs.take i).map Itm.row)[j]?=some x→H5 p=some (.lst [.str x.line,.int x.flag])) (λi ys H5 hP=>SqL.of (hP.1 _ _ hD2)) (by rw[aa2,aa2];omega) ⟨ae hil _,[],rfl,rfl,λj p x hj=>by cases hj⟩ (λi x ys H5 G' K' hx hP hl5 hD5 hG hK=>?_) λys H5 hP hl5 hD5=>?_
 ·rw[abo,aag] at hx;obtain ⟨r,hr,rfl⟩:=Option.map_eq_some_iff.mp hx;obtain ⟨s5,qs,rfl,ql,hq⟩:=hP;push_cast [and_true];refine ⟨by show (2:Nat)≤sizeLine;decide,λu hu=>?_⟩;have du:=ae hu (.lst [V.str r.line,V.int 0]);refine hK _ _ (du _ _ hD5) ⟨(s5.trans du).upd hil _,qs++[u],by rw[aad];rfl,by rw[aa4,ql];rfl,?_⟩;have nu:∀{v:Addr} {z:Str} {m:Int},upd H5 u (.lst [V.str r.line,V.int 0]) v=some (.lst [.str z,.int m])→upd (upd H5 u (.lst [V.str r.line,V.int 0])) il (.lst (qs.map V.ref++[V.ref u])) v=some (.lst [.str z,.int m]):=λhv=>by
   rw[ai (Jd hv (du _ _ hD5))];exact hv
  rw[show (rs.take (i+1)).map Itm.row=(rs.take i).map Itm.row++[Itm.row r] by rw[aax,hr,acj,aad];rfl];refine lq (R:=λp' x=>upd (upd H5 u (.lst [V.str r.line,V.int 0])) il (.lst (qs.map V.ref++[V.ref u])) p'=some (.lst [.str (Itm.line x),.int (Itm.flag x)])) (by rw[aa2,aaa,ql];have:=(List.getElem?_eq_some_iff.mp hr).1;omega) (λj p' x a b=>nu (du _ _ (hq j p' x a b))) ?_;exact nu aa
 obtain ⟨s5,qs,rfl,ql,hq⟩:=hP;rw[aa2,aa2] at ql;rw[aa2,aa2,aat] at hq;have hI5:fk H5 il (rs.map Itm.row):=⟨qs,hD5,by rw[aa2];exact ql,hq⟩;have S5:=S4.trans s5;have hh5:=hh4.same s5;have hN5:=s5 _ _ hN4;have hL5:=s5 _ _ hD2;have nlh':ln≠h:=λe=>by obtain ⟨_,_,_,x1,_⟩:=id hh3;rw[e,x1] at hln;cases hln
 have nih:il≠h:=λe=>by obtain ⟨_,_,_,x1,_⟩:=id hh4;rw[e,x1] at hil;cases hil
 have nin:il≠nl:=(aq hN4 hil).symm;clear hq ql;refine az hh5 (by omega) (by decide) (by decide+kernel) λy H6 s6 hh6 y0 y3=>⟨y,rfl,by omega,by omega,?_⟩;obtain ⟨NS,eNS⟩:∃NS,NS=zs.take 8++zs.drop 20:=⟨_,rfl⟩;have nsl:NS.length=12:=by rw[eNS,aa4,aaa,aaf];omega
 have nsn:∀z∈NS,ax z=true∧z∉R:=λz hz=>by
  rw[eNS] at hz;rcases List.mem_append.mp hz with hz | hz
  ·refine ⟨hnm z (ab9 hz),λhm=>?_⟩;rw[eR] at hm;have:=hnd;rw[←abz 8 zs] at this;exact (List.nodup_append.mp this).2.2 z hz z (by rw[List.drop_take] at hm;exact ab9 hm) rfl
  ·refine ⟨hnm z (ab8 hz),λhm=>?_⟩;rw[eR] at hm;have:=hnd;rw[←abz 20 zs] at this;exact (List.nodup_append.mp this).2.2 z (ab8 hm) z hz rfl
 obtain ⟨P1,eP1⟩:∃P1:Nat→L2.St→Hp→Prop,∀i σ H',P1 i σ H'↔∃(its:List Itm) (v5 v6 v7:Option V),σ=[some (.ref a),some (.ref h),some (.ref nl),some (.ref ln),some (.ref il),v5,v6,v7,none,none,none,none]∧ao H H'∧aw H' h (11+20*i)∧H' nl=some (.lst (zs.map V.str))∧H' ln=some (.lst ((rs.map Rw.line).map V.str))∧fk H' il its∧its.length=rs.length+i∧df its=rs∧(∀x∈its,x.ok R∧x.flag < 2)∧(0 < i→∃x∈its,x.flag=1):=⟨_,λ_ _ _=>acu⟩;have S6:ao H H6:=ak.fresh (((ak.of s1).trans s2).trans ((ak.of (d0.trans (s3.trans (hS.trans s5)))).trans s6)) hh1;have rowsO:=t8 rs;have HIL:H il=none:=S4.free hil;refine km (lo:=0) P1 ((eP1 _ _ _).mpr ⟨rs.map Itm.row,none,none,none,rfl,S6,hh6,s6 _ _ nlh hN5,s6 _ _ nlh' hL5,hI5.hand nih hh5 s6,by rw[aa2];rfl,rowsO,λx hx=>?_,λh=>absurd h (abp _)⟩) ?_ ?_
 ·obtain ⟨r,hr,rfl⟩:=List.mem_map.mp hx;exact ⟨hT.1 r hr,by show (0:Int) < 2;decide⟩
 ·clear S6 S5 S4 S3 s6 hh6 hI5 hh5 hN5 hL5 s5 hh4 hN4 hS;rintro i σ H7 hi hP;obtain ⟨its,v5,v6,v7,rfl,s7,hh7,hN7,hL7,hI7,il7,ir7,io7,_⟩:=(eP1 _ _ _).mp hP;push_cast [and_true];refine ⟨h,_,rfl,hh7,by omega,λt d H8 s8 htn ht hh8 hdk=>?_⟩;have dl:=dw hdk;refine ⟨t,rfl,⟨d,SqT.of ht⟩,λD hD=>Bn (λj ys=>ys=((d.take j).map ag).map V.str) (SqT.of ht) (by omega) hD rfl (λj x ys H9 G' K' hx hP' hl9 hS9 hG hK=>?_) λys H9 hP' hl9 hS9 hD9=>?_⟩
  ·push_cast [and_true];exact ⟨(n8 hdk x (aap hx)).word,hK _ _ (ao.refl _) (by rw[hP',aax,hx,aad,aad];rfl)⟩
  rw[aat] at hP';obtain ⟨z0,hz0⟩:∃z0,z0∈NS:=⟨_,aaw (show 0 < NS.length by omega)⟩;have dpw:∀w∈d.map ag,PW w:=λw hw=>PW.tx (r:=Rw.does z0 d) ⟨(nsn z0 hz0).1,hdk⟩ w (aab _ (aab _ hw));have dml:(d.map ag).length=d.length:=aa2 _;have dj:=jlen dpw (by omega);have dne:d.map ag≠[]:=λe=>by rw[e] at dml;simp at dml;omega
  have hh9:=hh8.same hS9;have hN9:=hS9 _ _ (s8 _ _ nlh hN7);have hL9:=hS9 _ _ (s8 _ _ nlh' hL7);have hI9:=(hI7.hand nih hh7 s8).same hS9;have s9:ak h H7 H9:=s8.trans (ak.of hS9);have c8:ck (zs.map V.str) none (some 8)=(zs.take 8).map V.str:=by
   have:=jf (zs.map V.str) 8 (by omega);rw[←abv] at this;exact this
  have c20d:ck (zs.map V.str) (some 20) none=(zs.drop 20).map V.str:=cx zs 20;refine ⟨d.map ag,SqL.of (by rw[hD9,hP']),by have:=dj.1;show _+_*(S " ").length≤_;omega,_,SqL.of hN9,λp1 hp1=>⟨_,SqL.of (ae hp1 _ _ _ hN9),λp2 hp2=>?_⟩⟩;rw[c8] at hp2;rw[c8,c20d];have e1:=ae hp1 (.lst ((zs.take 8).map V.str));have e2:=ae hp2 (.lst ((zs.drop 20).map V.str));refine dv (e2 _ _ aa) aa (by rw[aa2,aa2,aaa,aaf];omega) λp3 hp3=>?_;rw[show (zs.take 8).map V.str++(zs.drop 20).map V.str=NS.map V.str by rw[eNS,aad]];have e3:=ae hp3 (.lst (NS.map V.str));have E3:=e1.trans (e2.trans e3);have hh10:=hh9.same E3;have n3h:p3≠h:=hh10.ne aa (by rw[aa2];omega);refine az hh10 (by omega) (by decide) (by decide+kernel) λk H10 s10 hh10' k0 k12=>?_;obtain ⟨w,hw,hat⟩:=je (zs:=NS) k0 (by omega);obtain ⟨wn,wR⟩:=nsn w hw;have ok':(Rw.does w d).ok:=⟨wn,hdk⟩;have wl:w.length≤100:=(PW.tx ok' w (aab _ aa6)).2.1;have hI10:=(hI9.same E3).hand nih hh10 s10;obtain ⟨qs,q1,q2,q3⟩:=id hI10;have ql:(qs.map V.ref).length=its.length:=by rw[aa2];exact q2
  have rn':=hT.2.1;refine ah (s10 _ _ n3h aa) hat ⟨fo q1,_,.inl (SqL.of q1),?_⟩;rw[ql];refine az hh10' (by omega) (by omega) (ab1 (acr _) (by omega)) λx H11 s11 hh11 x0 x1=>?_;have la:∀a b:Str,(a++b).length=a.length+b.length:=λa b=>abu;have l5:(Str.ofString "does ").length=5:=by decide+kernel
  have l1':(Str.ofString " ").length=1:=by decide+kernel
  have dj2:(Txt.join (Str.ofString " ") (d.map ag)).length≤5000:=dj.2;refine ⟨w,rfl,by omega,by rw[la];omega,by rw[la,la];omega,by show (2:Nat)≤sizeLine;decide,λu hu=>?_⟩;rw[show Str.ofString "does "++w++Str.ofString " "++Txt.join (Str.ofString " ") (d.map ag)=(Rw.does w d).line from Cc dne];have e4:=ae hu (.lst [V.str (Rw.does w d).line,V.int 1]);have hI11:=(hI10.hand nih hh10' s11).same e4;obtain ⟨qs,q1,q2,q3⟩:=hI11;have ql:(qs.map V.ref).length=its.length:=by rw[aa2];exact q2
  have S11:ak h H7 _:=s9.trans ((ak.of E3).trans (s10.trans (s11.trans (ak.of e4))));have nu:u≠il:=(aq (hI10.hand nih hh10' s11).choose_spec.1 hu).symm;refine Gy q1 x0 (by omega) (by omega) ((eP1 _ _ _).mpr ⟨its.take x.toNat++Itm.stray w d::its.drop x.toNat,_,_,_,rfl,?_,?_,?_,?_,?_,?_,?_,λy hy=>?_,λ_=>⟨_,aai _ aa6,rfl⟩⟩)
  ·exact (ak.fresh ((ak.of s7).trans S11) hh1).upd HIL _
  ·exact (mi (hh11.same e4) nih.symm).le (by omega)
  ·rw[ai nin.symm];exact S11 _ _ nlh hN7
  ·rw[ai nli];exact S11 _ _ nlh' hL7
  ·rw[←abv,←adw,←aao,←aad];refine fk.put q1 ?_ λj p' y' hp' hy'=>?_
   ·rw[aa4,aa4,aa8,aa8,aaa,aaa,aaf,aaf,q2]
   ·rcases xu q2 (by omega) hp' hy' with ⟨j',a1,a2⟩ | ⟨rfl,rfl⟩
    ·exact q3 j' p' y' a1 a2
    ·exact aa
  ·rw[aa4,aa8,aaa,aaf];omega
  ·rw[Fp];exact ir7
  ·rcases List.mem_append.mp hy with hy | hy
   ·exact io7 y (ab9 hy)
   ·rcases List.mem_cons.mp hy with rfl | hy
    ·exact ⟨⟨ok',wR⟩,by show (1:Int) < 2;decide⟩
    ·exact io7 y (ab8 hy)
 ·rintro σ H7 hP;obtain ⟨its,v5,v6,v7,rfl,s7,hh7,hN7,hL7,hI7,il7,ir7,io7,if7⟩:=(eP1 _ _ _).mp hP;push_cast [and_true];have yn:y.toNat≤2:=by omega
  have rn':=hT.2.1;refine az hh7 (by omega) (by decide) (by decide+kernel) λsp H8 s8 hh8 sp0 sp3=>?_;have hL8:=s8 _ _ nlh' hL7;have hI8:=hI7.hand nih hh7 s8;have S8:ao H H8:=ak.fresh ((ak.of s7).trans s8) hh1;have llm:((rs.map Rw.line).map V.str).length=rs.length:=by rw[aa2,aa2]
  clear hP hI7 hN7 hL7 s7 s8 hh7;refine cf (λσ' H'=>∃sp':Int,σ'=[some (.ref a),some (.ref h),some (.ref nl),some (.ref ln),some (.ref il),v5,v6,v7,some (.int sp'),none,none,none]∧H'=H8∧0≤sp'∧sp'≤3∧(1≤sp'∨∃x∈its,x.flag=1)) ?_ ?_
  ·push_cast [and_true];obtain ⟨qs,q1,q2,q3⟩:=id hI8;refine ⟨_,.inl (SqL.of q1),_,.inl (SqL.of hL8),rfl,?_⟩;rw[aa2,llm,q2];refine bc (λc=>?_) λc=>?_
   ·exact ⟨by split <;> omega,by split <;> omega,.inl (by split <;> omega)⟩
   ·exact ⟨by omega,by omega,.inr (if7 (by omega))⟩
  rintro σ' H' ⟨sp',rfl,rfl,sp1,sp2,spx⟩;obtain ⟨M,eM⟩:∃M:L2.St→Hp→Prop,∀σ H',M σ H'↔∃its2:List Itm,σ=[some (.ref a),some (.ref h),some (.ref nl),some (.ref ln),some (.ref il),v5,v6,v7,some (.int sp'),none,none,none]∧ao H H'∧aw H' h 60∧H' ln=some (.lst ((rs.map Rw.line).map V.str))∧fk H' il its2∧its2≠[]∧its2.length≤70∧(∀x∈its2,x.ok R∧x.flag < 2)∧(∀n∈aj (df its2),n∈R)∧(∀n d,Rw.does n d∈df its2→n∈aj (df its2))∧(1≤sp'∨∃x∈its2,x.flag=1):=⟨_,λ_ _=>acu⟩;refine cf M ?_ ?_
  ·push_cast [and_true];obtain ⟨qs,q1,q2,q3⟩:=id hI8;refine ⟨_,.inl (SqL.of q1),rfl,?_⟩;rw[aa2,q2];refine bc (λc=>⟨fo q1,by show (2:Nat)≤sizeLine;decide,λu hu=>?_⟩) λc=>?_
   ·have e0:its=[]:=abw (by omega);have eq0:qs=[]:=abw (by rw[q2,e0];rfl);have du:=ae hu (.lst [V.str (Str.ofString ""),V.int 0]);have q1':=du _ _ q1;rw[eq0] at q1';refine (fb (K:=K) q1' (by show 0 < sizeLine;omega) ((eM _ _).mpr ⟨[Itm.row Rw.none],rfl,(S8.trans du).upd HIL _,(mi (hh8.same du) nih.symm).le (by omega),by rw[ai nli];exact du _ _ hL8,?_,by simp,by show 1≤70;decide,λx hx=>?_,(λn hn=>nomatch hn),(λn d hm=>?_),?_⟩)).2
    ·exact fk.put (qs:=[u]) q1' rfl λj p' y' hp' hy'=>by
      match j,hp',hy' with
      | 0,hp',hy'=>
       cases aac hp'
       cases aac hy'
       rw[aa];rfl
    ·rw[List.mem_singleton.mp hx];exact ⟨trivial,by show (0:Int) < 2;decide⟩
    ·have hm:Rw.does n d∈[Rw.none]:=hm;cases List.mem_singleton.mp hm
    ·rcases spx with h | ⟨x,hx,_⟩
     ·exact .inl h
     ·rw[e0] at hx;cases hx
   ·exact (eM _ _).mpr ⟨its,rfl,S8,hh8.le (by omega),hL8,hI8,λe=>by rw[e] at c;exact c rfl,by omega,io7,by rw[ir7];exact hRn,by rw[ir7];exact hT.2.2,spx⟩
  rintro σ' H9 hM;obtain ⟨its2,rfl,S9,hh9,hL9,hI9,ne2,l2,ok2,r2,d2',x2⟩:=(eM _ _).mp hM;clear hM hI8 S8 hh8 hL8;push_cast [J5];refine ⟨by omega,by omega,?_⟩;obtain ⟨P2,eP2⟩:∃P2:Nat→L2.St→Hp→Prop,∀i σ H',P2 i σ H'↔∃(itn:List Itm) (v5 v9:Option V),σ=[some (.ref a),some (.ref h),some (.ref nl),some (.ref ln),some (.ref il),v5,v6,v7,some (.int sp'),v9,none,none]∧ao H H'∧aw H' h (60+20*i)∧H' ln=some (.lst ((rs.map Rw.line).map V.str))∧fk H' il itn∧itn.length=its2.length∧(∀x∈itn,x.ok R)∧((itn=its2∧(0 < i→∃x∈its2,x.flag=1))∨∃x∈itn,x.flag=2):=⟨_,λ_ _ _=>acu⟩;refine km (lo:=0) P2 ((eP2 _ _ _).mpr ⟨its2,v5,none,rfl,S9,hh9,hL9,hI9,rfl,λx hx=>(ok2 x hx).1,.inl ⟨rfl,λh=>absurd h (abp _)⟩⟩) ?_ ?_
  ·clear hI9 hL9 hh9 S9;rintro i σ H10 hi hP;obtain ⟨itn,v5',v9,rfl,S10,hh10,hL10,hI10,ln10,ok10,c10⟩:=(eP2 _ _ _).mp hP;push_cast [gSub,Ka];obtain ⟨qs,q1,q2,q3⟩:=id hI10;have ql:(qs.map V.ref).length=itn.length:=by rw[aa2];exact q2
   have n0:0 < its2.length:=List.length_pos_iff.mpr ne2;refine ⟨_,.inl (SqL.of q1),?_⟩;rw[ql];refine az hh10 (by omega) (by omega) (ab1 (acr _) (by omega)) λx H11 s11 hh11 x0 x1=>?_;obtain ⟨m,rfl⟩:∃m:Nat,x=(m:Int):=⟨x.toNat,by omega⟩;have hm:m < itn.length:=by omega
   have hI11:=hI10.hand nih hh10 s11;clear q1 q2 q3 ql qs;obtain ⟨qs,q1,q2,q3⟩:=id hI11;have hqm:m < qs.length:=by omega
   have him:itn[m]?=some itn[m]:=aa5 hm;have g:=q3 m qs[m] itn[m] (aa5 hqm) him;have at1:atI (qs.map V.ref) (m:Int)=some (.ref qs[m]):=ay (by rw[aag,aa5 hqm];rfl);have S11:ao H H11:=ak.fresh ((ak.of S10).trans s11) hh1;have hL11:=s11 _ _ nlh' hL10;have okm:=ok10 _ (aaw hm);have mem:=aaw hm;refine ah q1 at1 (ah g (ay (j:=1) rfl) ⟨rfl,?_⟩);generalize itn[m]=xm at g okm him mem ⊢;cases xm with
   | stray n' d'=>
    rw[if_neg (λe=>absurd (V.int.inj e) (by show ¬(1:Int)=0;decide))];refine (eP2 _ _ _).mpr ⟨itn,_,_,rfl,S11,hh11.le (by omega),hL11,hI11,ln10,ok10,?_⟩;rcases c10 with ⟨e,_⟩ | h
    ·exact .inl ⟨e,λ_=>⟨_,e ▸ mem,rfl⟩⟩
    ·exact .inr h
   | bad y'=>
    rw[if_neg (λe=>absurd (V.int.inj e) (by show ¬(2:Int)=0;decide))];exact (eP2 _ _ _).mpr ⟨itn,_,_,rfl,S11,hh11.le (by omega),hL11,hI11,ln10,ok10,.inr ⟨_,mem,rfl⟩⟩
   | row r=>
    rw[if_pos (show V.int (Itm.row r).flag=V.int 0 from rfl)];refine ah q1 at1 (ah g (ay (j:=0) rfl) ⟨h,_,r,rfl,hh11,by omega,okm,λyl H12 s12 hh12 hbad=>⟨by show (2:Nat)≤sizeLine;decide,λu hu=>?_⟩⟩);have du:=ae hu (.lst [V.str yl,V.int 2]);have hI12:=(hI11.hand nih hh11 s12).same du;clear q1 q2 q3 g at1 hqm;obtain ⟨qs2,q1,q2,q3⟩:=hI12;have S12:ao H (upd H12 u (.lst [V.str yl,V.int 2])):=(ak.fresh ((ak.of S11).trans s12) hh1).trans du;have ix:ixN (qs2.map V.ref).length (m:Int)=some m:=by
     unfold ixN;rw[if_pos (by omega),if_pos (by rw[aa2];omega),ad7]
    refine ⟨_,_,rfl,q1,m,ix,(eP2 _ _ _).mpr ⟨itn.set m (Itm.bad yl),_,_,rfl,S12.upd HIL _,(mi (hh12.same du) nih.symm).le (by omega),by rw[ai nli];exact du _ _ (s12 _ _ nlh' hL11),?_,by rw[acf];exact ln10,λx hx=>?_,.inr ⟨Itm.bad yl,List.mem_set hm _,rfl⟩⟩⟩
    ·rw[show (qs2.map V.ref).set m (V.ref u)=(qs2.set m u).map V.ref from List.map_set.symm];refine fk.put q1 (by rw[acf,acf];exact q2) λj p' y' hp' hy'=>?_;by_cases e:m=j
     ·rw[ae8,if_pos e,if_pos (by omega)] at hp' hy';cases aac hp'
      cases aac hy'
      rw[aa];rfl
     ·rw[ae8,if_neg e] at hp' hy';exact q3 j p' y' hp' hy'
    ·rcases List.mem_or_eq_of_mem_set hx with h' | h'
     ·exact ok10 x h'
     ·rw[h'];exact hbad
  ·rintro σ H10 hP;obtain ⟨itn,v5',v9,rfl,S10,hh10,hL10,hI10,ln10,ok10,c10⟩:=(eP2 _ _ _).mp hP;push_cast [and_true];have l70:itn.length≤70:=by omega
   have nen:itn≠[]:=λe=>by rw[e] at ln10;exact ne2 (abw ln10.symm)
   obtain ⟨qs,q1,q2,q3⟩:=id hI10;have qm:(qs.map V.ref).length=itn.length:=by rw[aa2];exact q2
   obtain ⟨fs,efs⟩:∃fs,fs=itn.map Itm.flag:=⟨_,rfl⟩;have fsl:fs.length=itn.length:=by rw[efs,aa2]
   obtain ⟨mx,mx0,mxm,mxle,mxc⟩:∃mx:Int,0 < mx∧mx∈fs∧(∀y∈fs,y≤mx)∧((mx=2)∨(mx=1∧itn=its2)):=by
    have le2:∀x:Itm,x.flag≤2:=λx=>by
     cases x with
     | row r=>show (0:Int)≤2;decide
     | stray n' d'=>show (1:Int)≤2;decide
     | bad y'=>show (2:Int)≤2;decide
    by_cases h2:∃x∈itn,x.flag=2
    ·obtain ⟨x,hx,e⟩:=h2;exact ⟨2,by decide,by rw[efs];exact List.mem_map.mpr ⟨x,hx,e⟩,λy hy=>by rw[efs] at hy;obtain ⟨z,_,rfl⟩:=List.mem_map.mp hy;exact le2 z,.inl rfl⟩
    ·rcases c10 with ⟨e,hs⟩ | h
     ·obtain ⟨x,hx,ex⟩:∃x∈its2,x.flag=1:=by
       rcases x2 with h | h
       ·exact hs (by omega)
       ·exact h
      refine ⟨1,by decide,by rw[efs,e];exact List.mem_map.mpr ⟨x,hx,ex⟩,λy hy=>?_,.inr ⟨rfl,e⟩⟩;rw[efs,e] at hy;obtain ⟨z,hz,rfl⟩:=List.mem_map.mp hy;have:=(ok2 z hz).2;omega
     ·exact absurd h h2
   have mxu:∀m∈fs,(∀y∈fs,y≤m)→m=mx:=λm hm hle=>by
    have:=hle mx mxm;have:=mxle m hm;omega
   have fne:fs≠[]:=λe=>by rw[e] at mxm;cases mxm
   obtain ⟨k0,hk0,hkf⟩:=um mxm;have hk0':k0 < itn.length:=by rw[←fsl];exact (List.getElem?_eq_some_iff.mp hk0).1
   have stp:∀{i:Nat} {x:V},(qs.map V.ref)[i]?=some x→∃(p:Addr) (y:Itm),x=.ref p∧itn[i]?=some y∧H10 p=some (.lst [.str y.line,.int y.flag]):=λ{i x} hx=>by
    obtain ⟨p,hp,rfl⟩:=d7 hx;have hi:i < itn.length:=by rw[←q2];exact (List.getElem?_eq_some_iff.mp hp).1
    exact ⟨p,itn[i],rfl,aa5 hi,q3 i p _ hp (aa5 hi)⟩
   refine ⟨⟨_,SqL.of q1⟩,λfl hfl=>gy (λi ys=>ys=((itn.take i).map Itm.flag).map V.int) (SqL.of q1) (by omega) hfl rfl (λi x ys H11 G' K' hx hP' hl2 hS hG hK=>?_) λys H11 hP' hl2 hS hD2=>?_⟩
   ·obtain ⟨p,y',rfl,hy,hp⟩:=stp hx;push_cast [and_true];exact ah (hS _ _ hp) (ay (j:=1) rfl) (hK _ _ (ao.refl _) (by rw[hP',aax,hy,acj,aad,aad];rfl))
   rw[qm,aat,←efs] at hP';subst hP';have fml:(fs.map V.int).length=itn.length:=by rw[aa2];exact fsl
   refine ⟨_,.inl (SqL.of hD2),by omega,by omega,λdl hdl=>?_⟩;rw[fml,ad7];have ndf:dl≠fl:=(aq hD2 hdl).symm;refine zg (λi ys=>ys=((abf i).filter λk=>decide (fs[k]?=some mx)).map λk=>V.int ((k:Nat):Int)) (by omega) hdl rfl (λi ys H12 G' K' hi hP' hl3 hS3 hG hK=>?_) λys H12 hP' hl3 hS3 hD3=>?_
   ·push_cast [and_true];have hif:i < fs.length:=by omega
    have ati:atI (fs.map V.int) (0+(i:Int))=some (.int fs[i]):=by
     rw[show (0+(i:Int))=((i:Nat):Int) by omega];exact ay (by rw[aag,aa5 hif];rfl)
    refine ah (hS3 _ _ hD2) ati ⟨fs,SqL.of (hS3 _ _ hD2),fne,λm hm hle=>⟨rfl,?_⟩⟩;rw[mxu m hm hle];by_cases e:fs[i]=mx
    ·rw[if_pos (by rw[e])];refine hK _ _ (ao.refl _) ?_;rw[hP',acz,ad3,abx,if_pos (decide_eq_true (by rw[aa5 hif,e])),aee,aad,show (0+(i:Int))=((i:Nat):Int) by omega];rfl
    ·rw[if_neg (λh=>e (V.int.inj h))];refine hG _ (ao.refl _) ?_;rw[hP',acz,ad3,abx,if_neg (λh=>e (aac ((aa5 hif).symm.trans (of_decide_eq_true h)))),aee,aaq]
   have due0:atI ys 0=some (.int (k0:Int)):=by
    refine ay (j:=0) ?_;rw[hP',aag,Ip (k0:=k0) (decide_eq_true hk0) hk0' λj hj=>decide_eq_false λh=>hkf j mx hj h rfl];rfl
   have S12:=S10.trans (hS.trans hS3);have hL12:=(hS.trans hS3) _ _ hL10;have q1':=(hS.trans hS3) _ _ q1;refine ⟨fs,SqL.of (hS3 _ _ hD2),fne,λm hm hle=>?_⟩;rw[mxu m hm hle,if_pos mx0];refine ⟨⟨_,SqL.of q1'⟩,λtl htl=>gy (λi ys=>ys=((itn.take i).map Itm.line).map V.str) (SqL.of q1') (by omega) htl rfl (λi x ys H13 G' K' hx hP' hl4 hS4 hG hK=>?_) λys' H13 hP'' hl4 hS4 hD4=>?_⟩
   ·obtain ⟨p,y',rfl,hy,hp⟩:=stp hx;push_cast [and_true];exact ah (hS4 _ _ ((hS.trans hS3) _ _ hp)) (ay (j:=0) rfl) (hK _ _ (ao.refl _) (by rw[hP',aax,hy,acj,aad,aad];rfl))
   rw[qm,aat] at hP'';have tx:=text_len ok10 l70;obtain ⟨t1,t2,t3⟩:=pe ok10 nen (by omega);have hfx:∀j x,j < k0→itn[j]?=some x→x.flag < mx:=λj x hj hx=>by
    have hfj:fs[j]?=some x.flag:=by rw[efs,aag,hx];rfl
    have h1:=hkf j _ hj hfj;have h2:=mxle _ (aap hfj);omega
   have hxk:∃x,itn[k0]?=some x∧x.flag=mx:=by
    rw[efs,aag] at hk0;obtain ⟨x,hx,e⟩:=Option.map_eq_some_iff.mp hk0;exact ⟨x,hx,e⟩
   obtain ⟨xk,hxk,fxk⟩:=hxk;have told:=text_len (R:=R) (its:=rs.map Itm.row) (λx hx=>by obtain ⟨r,hr,rfl⟩:=List.mem_map.mp hx;exact hT.1 r hr) (by rw[aa2];omega);have elr:(rs.map Itm.row).map Itm.line=rs.map Rw.line:=by rw[abo];rfl
   rw[elr] at told;refine ⟨itn.map Itm.line,SqL.of (by rw[hD4,hP'']),by omega,_,k0+1,rfl,by have:=tx.2;omega,by rw[t1,aa2];omega,by rw[t1];exact t2,by rw[t1];exact t3,?_,λH14 s14=>ah ((hS4.trans s14) _ _ hD3) due0 ⟨rfl,?_⟩⟩
   ·rw[t1];rcases mxc with e2 | ⟨e1,ei⟩
    ·right
     rw[e2] at fxk hfx;cases xk with
     | bad yb=>exact G8 ok10 hxk hfx
     | row r=>exact absurd fxk (by show ¬(0:Int)=2;decide)
     | stray n' d'=>exact absurd fxk (by show ¬(1:Int)=2;decide)
    ·left
     rw[e1] at fxk hfx;rw[ei] at hxk hfx ok10 ⊢;cases xk with
     | stray n' d'=>exact zd ok10 r2 d2' (by omega) (λx hx=>(ok2 x hx).2) hxk hfx
     | row r=>exact absurd fxk (by show ¬(0:Int)=1;decide)
     | bad yb=>exact absurd fxk (by show ¬(2:Int)=1;decide)
   ·rw[if_neg (by simp)];obtain ⟨rs',g1,g2,g3⟩:=Kn hT;have hok':∀x∈rs.map Itm.row,Itm.ok R x:=λx hx=>by obtain ⟨r,hr,rfl⟩:=List.mem_map.mp hx;exact hT.1 r hr
    by_cases er:rs=[]
    ·refine ⟨rs.map Rw.line,SqL.of ((hS4.trans s14) _ _ hL12),by omega,_,rfl,by have:=told.2;omega,?_⟩;have e:Txt.split (Txt.join (Str.ofString "\n") ([]:List Str)) (Str.ofString "\n")=[Str.ofString ""]:=by decide+kernel
     have e2:b6 1 [Str.ofString ""]=[]:=by
      show (if Str.ofString ""=Str.ofString "" then [] else _)++[]=[]
      rw[if_pos rfl];rfl
     rw[er,acg,e,e2];exact ⟨by show 1≤1000;decide,λy hy=>by rw[List.mem_singleton.mp hy];decide+kernel,(λr hr=>nomatch hr),.inl ⟨[],rfl,⟨(λr hr=>nomatch hr),ab7 _⟩,.inl ⟨(λn d hm=>nomatch hm),λb H15 s15=>q _⟩⟩⟩
    ·obtain ⟨u1,u2,u3⟩:=pe hok' (λe=>er (List.map_eq_nil_iff.mp e)) (by rw[aa2];omega);rw[elr] at u1 u2 u3;exact ⟨rs.map Rw.line,SqL.of ((hS4.trans s14) _ _ hL12),by omega,_,rfl,by have:=told.2;omega,by rw[u1,aa2];omega,by rw[u1];exact u2,by rw[u1];exact u3,.inl ⟨rs',by rw[u1];exact g1,g2,.inl ⟨g3,λb H15 s15=>q _⟩⟩⟩
end
end K32
namespace K32
open PySem PySem.Spec L2 PyProof.Rows Pc Bk Nd Bd
theorem all_mk {l:PySem.W.OpenLaw} {w:World} {K:PySem.W.Frag} {h:Heap} {mg:Str→Option Value} {fa:Addr} (X:K.In h) (G:h.Ns mainGlobals mg) (hfa:mg "law"=some (.ref fa))
  {f0 f1 f2 f3 f4 f5 f6 f7 f8 f9 f10 f11 f12 f13 f14 f15 f16 f17 f18 f19 f20 f21 f22 f23 f24 f25 f26 f27 f28 f29 f30 f31 f32 f33 f34 f35 g4 g5 g6 fi0:Addr} {od0 an0 od1 an1 od2 an2 od3 an3 od4 an4 od5 an5 od6 an6 od7 an7 od8 an8 od9 an9 od10 an10 od11 an11 od12 an12 od13 an13 od14 an14 od15 an15 od16 an16 od17 an17 od18 an18 od19 an19 od20 an20 od21 an21 od22 an22 od23 an23 od24 an24 od25 an25 od26 an26 od27 an27 od28 an28 od29 an29 od30 an30 od31 an31 od32 an32 od33 an33 od34 an34 od35 an35 gd4 gd6 odi0 ani0:Option Addr} {sl0 sl1 sl2 sl3 sl4 sl5 sl6 sl7 sl8 sl9 sl10 sl11 sl12 sl13 sl14 sl15 sl16 sl17 sl18 sl19 sl20 sl21 sl22 sl23 sl24 sl25 sl26 sl27 sl28 sl29 sl30 sl31 sl32 sl33 sl34 sl35 gs4 gs6 sli0:Array (Option Value)} {oc0 kV0 dc0 pm0 cd0 ct0 oc1 kV1 dc1 pm1 cd1 ct1 oc2 kV2 dc2 pm2 cd2 ct2 oc3 kV3 dc3 pm3 cd3 ct3 oc4 kV4 dc4 pm4 cd4 ct4 oc5 kV5 dc5 pm5 cd5 ct5 oc6 kV6 dc6 pm6 cd6 ct6 oc7 kV7 dc7 pm7 cd7 ct7 oc8 kV8 dc8 pm8 cd8 ct8 oc9 kV9 dc9 pm9 cd9 ct9 oc10 kV10 dc10 pm10 cd10 ct10 oc11 kV11 dc11 pm11 cd11 ct11 oc12 kV12 dc12 pm12 cd12 ct12 oc13 kV13 dc13 pm13 cd13 ct13 oc14 kV14 dc14 pm14 cd14 ct14 oc15 kV15 dc15 pm15 cd15 ct15 oc16 kV16 dc16 pm16 cd16 ct16 oc17 kV17 dc17 pm17 cd17 ct17 oc18 kV18 dc18 pm18 cd18 ct18 oc19 kV19 dc19 pm19 cd19 ct19 oc20 kV20 dc20 pm20 cd20 ct20 oc21 kV21 dc21 pm21 cd21 ct21 oc22 kV22 dc22 pm22 cd22 ct22 oc23 kV23 dc23 pm23 cd23 ct23 oc24 kV24 dc24 pm24 cd24 ct24 oc25 kV25 dc25 pm25 cd25 ct25 oc26 kV26 dc26 pm26 cd26 ct26 oc27 kV27 dc27 pm27 cd27 ct27 oc28 kV28 dc28 pm28 cd28 ct28 oc29 kV29 dc29 pm29 cd29 ct29 oc30 kV30 dc30 pm30 cd30 ct30 oc31 kV31 dc31 pm31 cd31 ct31 oc32 kV32 dc32 pm32 cd32 ct32 oc33 kV33 dc33 pm33 cd33 ct33 oc34 kV34 dc34 pm34 cd34 ct34 oc35 kV35 dc35 pm35 cd35 ct35 oci0 kVi0 dci0 pmi0 cdi0 cti0:Value} {tk0 tk1 tk2 tk3 gt4x0 gt4x1 gt4x2 gt4x3 gt4x4 gt4x5 gt4x6 gt4x7 gt4x8 gn4 dt5x0 dt5x1 dt5x2 dt5x3 du5x0 du5x1 du5x2 du5x3 dp5 gt6x0 gt6x1 gt6x2 gt6x3 gn6 tk7 tk8 tk9 tk10:Nat} {dh5x0 dh5x1 dh5x2 dh5x3:Int} {e0 e1 e2 e3 e4 e5 e6 e7 e8 e9 e10 e11 eN0 eN1 eN2 eN3 eN4 eN5 eN6 eN7 eN8 eN9 eN10 eN11:Addr} {enm0 enm1 enm2 enm3 enm4 enm5 enm6 enm7 enm8 enm9 enm10 enm11 eqn0 eqn1 eqn2 eqn3 eqn4 eqn5 eqn6 eqn7 eqn8 eqn9 eqn10 eqn11:Str} {ebs0 ebs1 ebs2 ebs3 ebs4 ebs5 ebs6 ebs7 ebs8 ebs9 ebs10 ebs11 esu0 esu1 esu2 esu3 esu4 esu5 esu6 esu7 esu8 esu9 esu10 esu11:List Value} {esn0 esn1 esn2 esn3 esn4 esn5 esn6 esn7 esn8 esn9 esn10 esn11:List Str} {eab0 eab1 eab2 eab3 eab4 eab5 eab6 eab7 eab8 eab9 eab10 eab11:Bool} {eco0 eco1 eco2 eco3 eco4 eco5 eco6 eco7 eco8 eco9 eco10 eco11:Option Bool} {edd0 edd1 edd2 edd3 edd4 edd5 edd6 edd7 edd8 edd9 edd10 edd11:Option Addr} {eka0 eka1 eka2 eka3 eka4 eka5 eka6 eka7 eka8 eka9 eka10 eka11 ekb0 ekb1 ekb2 ekb3 ekb4 ekb5 ekb6 ekb7 ekb8 ekb9 ekb10 ekb11 ekc0 ekc1 ekc2 ekc3 ekc4 ekc5 ekc6 ekc7 ekc8 ekc9 ekc10 ekc11 ekd0 ekd1 ekd2 ekd3 ekd4 ekd5 ekd6 ekd7 ekd8 ekd9 ekd10 ekd11 eke0 eke1 eke2 eke3 eke4 eke5 eke6 eke7 eke8 eke9 eke10 eke11:Option Value}
  (a0:PySem.W.nsIn K mainGlobals "made_of"=some (some (.ref f0)))
  (l0:K.lookup f0=some ⟨oc0,od0,.func (PySem.W.fnOf "made_of" "made_of" (av pq) (ar pq) (af pq) .none kV0 dc0 pm0 an0 cd0 ct0),sl0⟩)
  (c0:PySem.W.codeIn K cd0 "made_of"=true)
  (k0:PySem.W.keepIn K (.ref f0)=true)
  (a1:PySem.W.nsIn K mainGlobals "is_name"=some (some (.ref f1)))
  (l1:K.lookup f1=some ⟨oc1,od1,.func (PySem.W.fnOf "is_name" "is_name" (av qo) (ar qo) (af qo) .none kV1 dc1 pm1 an1 cd1 ct1),sl1⟩)
  (c1:PySem.W.codeIn K cd1 "is_name"=true)
  (k1:PySem.W.keepIn K (.ref f1)=true)
  (a2:PySem.W.nsIn K mainGlobals "is_number"=some (some (.ref f2)))
  (l2:K.lookup f2=some ⟨oc2,od2,.func (PySem.W.fnOf "is_number" "is_number" (av Ck) (ar Ck) (af Ck) .none kV2 dc2 pm2 an2 cd2 ct2),sl2⟩)
  (c2:PySem.W.codeIn K cd2 "is_number"=true)
  (k2:PySem.W.keepIn K (.ref f2)=true)
  (a3:PySem.W.nsIn K mainGlobals "how_many_below"=some (some (.ref f3)))
  (l3:K.lookup f3=some ⟨oc3,od3,.func (PySem.W.fnOf "how_many_below" "how_many_below" (av Co) (ar Co) (af Co) .none kV3 dc3 pm3 an3 cd3 ct3),sl3⟩)
  (c3:PySem.W.codeIn K cd3 "how_many_below"=true)
  (k3:PySem.W.keepIn K (.ref f3)=true)
  (a4:PySem.W.nsIn K mainGlobals "is_term_word"=some (some (.ref f4)))
  (l4:K.lookup f4=some ⟨oc4,od4,.func (PySem.W.fnOf "is_term_word" "is_term_word" (av kc) (ar kc) (af kc) .none kV4 dc4 pm4 an4 cd4 ct4),sl4⟩)
  (c4:PySem.W.codeIn K cd4 "is_term_word"=true)
  (k4:PySem.W.keepIn K (.ref f4)=true)
  (a5:PySem.W.nsIn K mainGlobals "number_or_text"=some (some (.ref f5)))
  (l5:K.lookup f5=some ⟨oc5,od5,.func (PySem.W.fnOf "number_or_text" "number_or_text" (av qc) (ar qc) (af qc) .none kV5 dc5 pm5 an5 cd5 ct5),sl5⟩)
  (c5:PySem.W.codeIn K cd5 "number_or_text"=true)
  (k5:PySem.W.keepIn K (.ref f5)=true)
  (a6:PySem.W.nsIn K mainGlobals "is_shape_word"=some (some (.ref f6)))
  (l6:K.lookup f6=some ⟨oc6,od6,.func (PySem.W.fnOf "is_shape_word" "is_shape_word" (av Bc) (ar Bc) (af Bc) .none kV6 dc6 pm6 an6 cd6 ct6),sl6⟩)
  (c6:PySem.W.codeIn K cd6 "is_shape_word"=true)
  (k6:PySem.W.keepIn K (.ref f6)=true)
  (a7:PySem.W.nsIn K mainGlobals "is_leaf_name"=some (some (.ref f7)))
  (l7:K.lookup f7=some ⟨oc7,od7,.func (PySem.W.fnOf "is_leaf_name" "is_leaf_name" (av ky) (ar ky) (af ky) .none kV7 dc7 pm7 an7 cd7 ct7),sl7⟩)
  (c7:PySem.W.codeIn K cd7 "is_leaf_name"=true)
  (k7:PySem.W.keepIn K (.ref f7)=true)
  (a8:PySem.W.nsIn K mainGlobals "is_from"=some (some (.ref f8)))
  (l8:K.lookup f8=some ⟨oc8,od8,.func (PySem.W.fnOf "is_from" "is_from" (av rb) (ar rb) (af rb) .none kV8 dc8 pm8 an8 cd8 ct8),sl8⟩)
  (c8:PySem.W.codeIn K cd8 "is_from"=true)
  (k8:PySem.W.keepIn K (.ref f8)=true)
  (a9:PySem.W.nsIn K mainGlobals "is_source"=some (some (.ref f9)))
  (l9:K.lookup f9=some ⟨oc9,od9,.func (PySem.W.fnOf "is_source" "is_source" (av Cr) (ar Cr) (af Cr) .none kV9 dc9 pm9 an9 cd9 ct9),sl9⟩)
  (c9:PySem.W.codeIn K cd9 "is_source"=true)
  (k9:PySem.W.keepIn K (.ref f9)=true)
  (a10:PySem.W.nsIn K mainGlobals "how_many_sources"=some (some (.ref f10)))
  (l10:K.lookup f10=some ⟨oc10,od10,.func (PySem.W.fnOf "how_many_sources" "how_many_sources" (av qw) (ar qw) (af qw) .none kV10 dc10 pm10 an10 cd10 ct10),sl10⟩)
  (c10:PySem.W.codeIn K cd10 "how_many_sources"=true)
  (k10:PySem.W.keepIn K (.ref f10)=true)
  (a11:PySem.W.nsIn K mainGlobals "is_deed"=some (some (.ref f11)))
  (l11:K.lookup f11=some ⟨oc11,od11,.func (PySem.W.fnOf "is_deed" "is_deed" (av ka) (ar ka) (af ka) .none kV11 dc11 pm11 an11 cd11 ct11),sl11⟩)
  (c11:PySem.W.codeIn K cd11 "is_deed"=true)
  (k11:PySem.W.keepIn K (.ref f11)=true)
  (a12:PySem.W.nsIn K mainGlobals "is_price"=some (some (.ref f12)))
  (l12:K.lookup f12=some ⟨oc12,od12,.func (PySem.W.fnOf "is_price" "is_price" (av Ax) (ar Ax) (af Ax) .none kV12 dc12 pm12 an12 cd12 ct12),sl12⟩)
  (c12:PySem.W.codeIn K cd12 "is_price"=true)
  (k12:PySem.W.keepIn K (.ref f12)=true)
  (a13:PySem.W.nsIn K mainGlobals "is_kind_row"=some (some (.ref f13)))
  (l13:K.lookup f13=some ⟨oc13,od13,.func (PySem.W.fnOf "is_kind_row" "is_kind_row" (av ku) (ar ku) (af ku) .none kV13 dc13 pm13 an13 cd13 ct13),sl13⟩)
  (c13:PySem.W.codeIn K cd13 "is_kind_row"=true)
  (k13:PySem.W.keepIn K (.ref f13)=true)
  (a14:PySem.W.nsIn K mainGlobals "is_does_row"=some (some (.ref f14)))
  (l14:K.lookup f14=some ⟨oc14,od14,.func (PySem.W.fnOf "is_does_row" "is_does_row" (av kg) (ar kg) (af kg) .none kV14 dc14 pm14 an14 cd14 ct14),sl14⟩)
  (c14:PySem.W.codeIn K cd14 "is_does_row"=true)
  (k14:PySem.W.keepIn K (.ref f14)=true)
  (a15:PySem.W.nsIn K mainGlobals "is_rule_row"=some (some (.ref f15)))
  (l15:K.lookup f15=some ⟨oc15,od15,.func (PySem.W.fnOf "is_rule_row" "is_rule_row" (av ko) (ar ko) (af ko) .none kV15 dc15 pm15 an15 cd15 ct15),sl15⟩)
  (c15:PySem.W.codeIn K cd15 "is_rule_row"=true)
  (k15:PySem.W.keepIn K (.ref f15)=true)
  (a16:PySem.W.nsIn K mainGlobals "rows_in"=some (some (.ref f16)))
  (l16:K.lookup f16=some ⟨oc16,od16,.func (PySem.W.fnOf "rows_in" "rows_in" (av g9) (ar g9) (af g9) .none kV16 dc16 pm16 an16 cd16 ct16),sl16⟩)
  (c16:PySem.W.codeIn K cd16 "rows_in"=true)
  (k16:PySem.W.keepIn K (.ref f16)=true)
  (a17:PySem.W.nsIn K mainGlobals "refuse_other_rows"=some (some (.ref f17)))
  (l17:K.lookup f17=some ⟨oc17,od17,.func (PySem.W.fnOf "refuse_other_rows" "refuse_other_rows" (av iu) (ar iu) (af iu) .none kV17 dc17 pm17 an17 cd17 ct17),sl17⟩)
  (c17:PySem.W.codeIn K cd17 "refuse_other_rows"=true)
  (k17:PySem.W.keepIn K (.ref f17)=true)
  (a18:PySem.W.nsIn K mainGlobals "read_words"=some (some (.ref f18)))
  (l18:K.lookup f18=some ⟨oc18,od18,.func (PySem.W.fnOf "read_words" "read_words" (av ir) (ar ir) (af ir) .none kV18 dc18 pm18 an18 cd18 ct18),sl18⟩)
  (c18:PySem.W.codeIn K cd18 "read_words"=true)
  (k18:PySem.W.keepIn K (.ref f18)=true)
  (a19:PySem.W.nsIn K mainGlobals "deeds_by_rule"=some (some (.ref f19)))
  (l19:K.lookup f19=some ⟨oc19,od19,.func (PySem.W.fnOf "deeds_by_rule" "deeds_by_rule" (av fw) (ar fw) (af fw) .none kV19 dc19 pm19 an19 cd19 ct19),sl19⟩)
  (c19:PySem.W.codeIn K cd19 "deeds_by_rule"=true)
  (k19:PySem.W.keepIn K (.ref f19)=true)
  (a20:PySem.W.nsIn K mainGlobals "read_book"=some (some (.ref f20)))
  (l20:K.lookup f20=some ⟨oc20,od20,.func (PySem.W.fnOf "read_book" "read_book" (av ij) (ar ij) (af ij) .none kV20 dc20 pm20 an20 cd20 ct20),sl20⟩)
  (c20:PySem.W.codeIn K cd20 "read_book"=true)
  (k20:PySem.W.keepIn K (.ref f20)=true)
  (a21:PySem.W.nsIn K mainGlobals "_law_hand"=some (some (.ref f21)))
  (l21:K.lookup f21=some ⟨oc21,od21,.func (PySem.W.fnOf "_law_hand" "_law_hand" (av qk) (ar qk) (af qk) .none kV21 dc21 pm21 an21 cd21 ct21),sl21⟩)
  (c21:PySem.W.codeIn K cd21 "_law_hand"=true)
  (k21:PySem.W.keepIn K (.ref f21)=true)
  (a22:PySem.W.nsIn K mainGlobals "_law_draw"=some (some (.ref f22)))
  (l22:K.lookup f22=some ⟨oc22,od22,.func (PySem.W.fnOf "_law_draw" "_law_draw" (av p7) (ar p7) (af p7) .none kV22 dc22 pm22 an22 cd22 ct22),sl22⟩)
  (c22:PySem.W.codeIn K cd22 "_law_draw"=true)
  (k22:PySem.W.keepIn K (.ref f22)=true)
  (a23:PySem.W.nsIn K mainGlobals "_law_number"=some (some (.ref f23)))
  (l23:K.lookup f23=some ⟨oc23,od23,.func (PySem.W.fnOf "_law_number" "_law_number" (av qf) (ar qf) (af qf) .none kV23 dc23 pm23 an23 cd23 ct23),sl23⟩)
  (c23:PySem.W.codeIn K cd23 "_law_number"=true)
  (k23:PySem.W.keepIn K (.ref f23)=true)
  (a24:PySem.W.nsIn K mainGlobals "_law_any_word"=some (some (.ref f24)))
  (l24:K.lookup f24=some ⟨oc24,od24,.func (PySem.W.fnOf "_law_any_word" "_law_any_word" (av kj) (ar kj) (af kj) .none kV24 dc24 pm24 an24 cd24 ct24),sl24⟩)
  (c24:PySem.W.codeIn K cd24 "_law_any_word"=true)
  (k24:PySem.W.keepIn K (.ref f24)=true)
  (a25:PySem.W.nsIn K mainGlobals "_law_any_deed"=some (some (.ref f25)))
  (l25:K.lookup f25=some ⟨oc25,od25,.func (PySem.W.fnOf "_law_any_deed" "_law_any_deed" (av kb) (ar kb) (af kb) .none kV25 dc25 pm25 an25 cd25 ct25),sl25⟩)
  (c25:PySem.W.codeIn K cd25 "_law_any_deed"=true)
  (k25:PySem.W.keepIn K (.ref f25)=true)
  (a26:PySem.W.nsIn K mainGlobals "_law_names"=some (some (.ref f26)))
  (l26:K.lookup f26=some ⟨oc26,od26,.func (PySem.W.fnOf "_law_names" "_law_names" (av ib) (ar ib) (af ib) .none kV26 dc26 pm26 an26 cd26 ct26),sl26⟩)
  (c26:PySem.W.codeIn K cd26 "_law_names"=true)
  (k26:PySem.W.keepIn K (.ref f26)=true)
  (a27:PySem.W.nsIn K mainGlobals "_law_row"=some (some (.ref f27)))
  (l27:K.lookup f27=some ⟨oc27,od27,.func (PySem.W.fnOf "_law_row" "_law_row" (av o8) (ar o8) (af o8) .none kV27 dc27 pm27 an27 cd27 ct27),sl27⟩)
  (c27:PySem.W.codeIn K cd27 "_law_row"=true)
  (k27:PySem.W.keepIn K (.ref f27)=true)
  (a28:PySem.W.nsIn K mainGlobals "_law_settled"=some (some (.ref f28)))
  (l28:K.lookup f28=some ⟨oc28,od28,.func (PySem.W.fnOf "_law_settled" "_law_settled" (av fe) (ar fe) (af fe) .none kV28 dc28 pm28 an28 cd28 ct28),sl28⟩)
  (c28:PySem.W.codeIn K cd28 "_law_settled"=true)
  (k28:PySem.W.keepIn K (.ref f28)=true)
  (a29:PySem.W.nsIn K mainGlobals "_law_rows"=some (some (.ref f29)))
  (l29:K.lookup f29=some ⟨oc29,od29,.func (PySem.W.fnOf "_law_rows" "_law_rows" (av kf) (ar kf) (af kf) .none kV29 dc29 pm29 an29 cd29 ct29),sl29⟩)
  (c29:PySem.W.codeIn K cd29 "_law_rows"=true)
  (k29:PySem.W.keepIn K (.ref f29)=true)
  (a30:PySem.W.nsIn K mainGlobals "_law_line"=some (some (.ref f30)))
  (l30:K.lookup f30=some ⟨oc30,od30,.func (PySem.W.fnOf "_law_line" "_law_line" (av ou) (ar ou) (af ou) .none kV30 dc30 pm30 an30 cd30 ct30),sl30⟩)
  (c30:PySem.W.codeIn K cd30 "_law_line"=true)
  (k30:PySem.W.keepIn K (.ref f30)=true)
  (a31:PySem.W.nsIn K mainGlobals "_law_bad_from"=some (some (.ref f31)))
  (l31:K.lookup f31=some ⟨oc31,od31,.func (PySem.W.fnOf "_law_bad_from" "_law_bad_from" (av rm) (ar rm) (af rm) .none kV31 dc31 pm31 an31 cd31 ct31),sl31⟩)
  (c31:PySem.W.codeIn K cd31 "_law_bad_from"=true)
  (k31:PySem.W.keepIn K (.ref f31)=true)
  (a32:PySem.W.nsIn K mainGlobals "_law_bad_word"=some (some (.ref f32)))
  (l32:K.lookup f32=some ⟨oc32,od32,.func (PySem.W.fnOf "_law_bad_word" "_law_bad_word" (av ph) (ar ph) (af ph) .none kV32 dc32 pm32 an32 cd32 ct32),sl32⟩)
  (c32:PySem.W.codeIn K cd32 "_law_bad_word"=true)
  (k32:PySem.W.keepIn K (.ref f32)=true)
  (a33:PySem.W.nsIn K mainGlobals "_law_spoiled"=some (some (.ref f33)))
  (l33:K.lookup f33=some ⟨oc33,od33,.func (PySem.W.fnOf "_law_spoiled" "_law_spoiled" (av kr) (ar kr) (af kr) .none kV33 dc33 pm33 an33 cd33 ct33),sl33⟩)
  (c33:PySem.W.codeIn K cd33 "_law_spoiled"=true)
  (k33:PySem.W.keepIn K (.ref f33)=true)
  (a34:PySem.W.nsIn K mainGlobals "_law_row_of"=some (some (.ref f34)))
  (l34:K.lookup f34=some ⟨oc34,od34,.func (PySem.W.fnOf "_law_row_of" "_law_row_of" (av kn) (ar kn) (af kn) .none kV34 dc34 pm34 an34 cd34 ct34),sl34⟩)
  (c34:PySem.W.codeIn K cd34 "_law_row_of"=true)
  (k34:PySem.W.keepIn K (.ref f34)=true)
  (a35:PySem.W.nsIn K mainGlobals "law"=some (some (.ref f35)))
  (l35:K.lookup f35=some ⟨oc35,od35,.func (PySem.W.fnOf "law" "law" (av xx) (ar xx) (af xx) .none kV35 dc35 pm35 an35 cd35 ct35),sl35⟩)
  (c35:PySem.W.codeIn K cd35 "law"=true)
  (k35:PySem.W.keepIn K (.ref f35)=true)
  (z0:PySem.W.nsIn K mainGlobals "ValueError"=some none)
  (z1:PySem.W.nsIn K mainGlobals "all"=some none)
  (z2:PySem.W.nsIn K mainGlobals "bool"=some none)
  (z3:PySem.W.nsIn K mainGlobals "enumerate"=some none)
  (z4:PySem.W.nsIn K mainGlobals "int"=some none)
  (z5:PySem.W.nsIn K mainGlobals "isinstance"=some none)
  (z6:PySem.W.nsIn K mainGlobals "len"=some none)
  (z7:PySem.W.nsIn K mainGlobals "max"=some none)
  (z8:PySem.W.nsIn K mainGlobals "min"=some none)
  (z9:PySem.W.nsIn K mainGlobals "range"=some none)
  (z10:PySem.W.nsIn K mainGlobals "str"=some none)
  (z11:PySem.W.nsIn K mainGlobals "sum"=some none)
  (z12:PySem.W.nsIn K mainGlobals "tuple"=some none)
  (y0:PySem.W.nsIn K mainGlobals "LETTERS"=some (some (.str "abcdefghijklmnopqrstuvwxyz" tk0)))
  (y1:PySem.W.nsIn K mainGlobals "FIGURES"=some (some (.str "0123456789" tk1)))
  (y2:PySem.W.nsIn K mainGlobals "MOST_LETTERS"=some (some (.int 8 tk2)))
  (y3:PySem.W.nsIn K mainGlobals "MOST_FIGURES"=some (some (.int 60 tk3)))
  (y4:PySem.W.nsIn K mainGlobals "KEPT_WORDS"=some (some (.ref g4)))
  (x4:K.lookup g4=some ⟨.type "tuple",gd4,.seq #[.str "add" gt4x0,.str "sub" gt4x1,.str "mul" gt4x2,.str "neg" gt4x3,.str "any" gt4x4,.str "var" gt4x5,.str "put" gt4x6,.str "load" gt4x7,.str "out" gt4x8] gn4,gs4⟩)
  (y5:PySem.W.nsIn K mainGlobals "PARTS_BELOW"=some (some (.ref g5)))
  (x5:K.lookup g5=some ⟨.type "dict",none,.dict #[⟨dh5x0,.str "add" dt5x0,.int 2 du5x0⟩,⟨dh5x1,.str "sub" dt5x1,.int 2 du5x1⟩,⟨dh5x2,.str "mul" dt5x2,.int 2 du5x2⟩,⟨dh5x3,.str "neg" dt5x3,.int 1 du5x3⟩] dp5,#[]⟩)
  (hh5x0:dh5x0=hashStr w "add")
  (hh5x1:dh5x1=hashStr w "sub")
  (hh5x2:dh5x2=hashStr w "mul")
  (hh5x3:dh5x3=hashStr w "neg")
  (ha5:(g5==sysModules)=false)
  (y6:PySem.W.nsIn K mainGlobals "BOXES"=some (some (.ref g6)))
  (x6:K.lookup g6=some ⟨.type "tuple",gd6,.seq #[.str "out" gt6x0,.str "t1" gt6x1,.str "t2" gt6x2,.str "t3" gt6x3] gn6,gs6⟩)
  (y7:PySem.W.nsIn K mainGlobals "LEAF_NUMBERS"=some (some (.str "123456789" tk7)))
  (y8:PySem.W.nsIn K mainGlobals "MOST_PRICE"=some (some (.int 999999 tk8)))
  (y9:PySem.W.nsIn K mainGlobals "MOST_SHAPE_WORDS"=some (some (.int 12 tk9)))
  (y10:PySem.W.nsIn K mainGlobals "SHAPE_START"=some (some (.int 5 tk10)))
  (cn0:PySem.W.nsIn K mainGlobals "CoverError"=some (some (.ref e0)))
  (cl0:K.lookup e0=some (excClassObj enm0 eqn0 e0 eN0 ebs0 vbm true esn0 esu0 eab0 eco0 edd0 eka0 ekb0 ekc0 ekd0 eke0 "ValueError.__new__"))
  (ck0:PySem.W.keepIn K (.ref e0)=true)
  (cs0:PySem.W.findIn K (.ref e0) "__setattr__"=some (some (.builtin "object.__setattr__")))
  (cg0:PySem.W.findIn K (.ref e0) "__getattribute__"=some (some (.builtin "BaseException.__getattribute__")))
  (ch0:PySem.W.findIn K (.ref e0) "__getattr__"=some (none))
  (cc0:PySem.W.findIn K (.ref e0) "__class__"=some (some (.builtin "object.__class__")))
  (cn1:PySem.W.nsIn K mainGlobals "NoTerm"=some (some (.ref e1)))
  (cl1:K.lookup e1=some (excClassObj enm1 eqn1 e1 eN1 ebs1 (.ref e0::vbm) true esn1 esu1 eab1 eco1 edd1 eka1 ekb1 ekc1 ekd1 eke1 "ValueError.__new__"))
  (ck1:PySem.W.keepIn K (.ref e1)=true)
  (cs1:PySem.W.findIn K (.ref e1) "__setattr__"=some (some (.builtin "object.__setattr__")))
  (cg1:PySem.W.findIn K (.ref e1) "__getattribute__"=some (some (.builtin "BaseException.__getattribute__")))
  (ch1:PySem.W.findIn K (.ref e1) "__getattr__"=some (none))
  (cc1:PySem.W.findIn K (.ref e1) "__class__"=some (some (.builtin "object.__class__")))
  (cn2:PySem.W.nsIn K mainGlobals "NoBox"=some (some (.ref e2)))
  (cl2:K.lookup e2=some (excClassObj enm2 eqn2 e2 eN2 ebs2 (.ref e0::vbm) true esn2 esu2 eab2 eco2 edd2 eka2 ekb2 ekc2 ekd2 eke2 "ValueError.__new__"))
  (ck2:PySem.W.keepIn K (.ref e2)=true)
  (cs2:PySem.W.findIn K (.ref e2) "__setattr__"=some (some (.builtin "object.__setattr__")))
  (cg2:PySem.W.findIn K (.ref e2) "__getattribute__"=some (some (.builtin "BaseException.__getattribute__")))
  (ch2:PySem.W.findIn K (.ref e2) "__getattr__"=some (none))
  (cc2:PySem.W.findIn K (.ref e2) "__class__"=some (some (.builtin "object.__class__")))
  (cn3:PySem.W.nsIn K mainGlobals "BadCover"=some (some (.ref e3)))
  (cl3:K.lookup e3=some (excClassObj enm3 eqn3 e3 eN3 ebs3 (.ref e0::vbm) true esn3 esu3 eab3 eco3 edd3 eka3 ekb3 ekc3 ekd3 eke3 "ValueError.__new__"))
  (ck3:PySem.W.keepIn K (.ref e3)=true)
  (cs3:PySem.W.findIn K (.ref e3) "__setattr__"=some (some (.builtin "object.__setattr__")))
  (cg3:PySem.W.findIn K (.ref e3) "__getattribute__"=some (some (.builtin "BaseException.__getattribute__")))
  (ch3:PySem.W.findIn K (.ref e3) "__getattr__"=some (none))
  (cc3:PySem.W.findIn K (.ref e3) "__class__"=some (some (.builtin "object.__class__")))
  (cn4:PySem.W.nsIn K mainGlobals "NoCover"=some (some (.ref e4)))
  (cl4:K.lookup e4=some (excClassObj enm4 eqn4 e4 eN4 ebs4 (.ref e0::vbm) true esn4 esu4 eab4 eco4 edd4 eka4 ekb4 ekc4 ekd4 eke4 "ValueError.__new__"))
  (ck4:PySem.W.keepIn K (.ref e4)=true)
  (cs4:PySem.W.findIn K (.ref e4) "__setattr__"=some (some (.builtin "object.__setattr__")))
  (cg4:PySem.W.findIn K (.ref e4) "__getattribute__"=some (some (.builtin "BaseException.__getattribute__")))
  (ch4:PySem.W.findIn K (.ref e4) "__getattr__"=some (none))
  (cc4:PySem.W.findIn K (.ref e4) "__class__"=some (some (.builtin "object.__class__")))
  (cn5:PySem.W.nsIn K mainGlobals "BadRow"=some (some (.ref e5)))
  (cl5:K.lookup e5=some (excClassObj enm5 eqn5 e5 eN5 ebs5 (.ref e0::vbm) true esn5 esu5 eab5 eco5 edd5 eka5 ekb5 ekc5 ekd5 eke5 "ValueError.__new__"))
  (ck5:PySem.W.keepIn K (.ref e5)=true)
  (cs5:PySem.W.findIn K (.ref e5) "__setattr__"=some (some (.builtin "object.__setattr__")))
  (cg5:PySem.W.findIn K (.ref e5) "__getattribute__"=some (some (.builtin "BaseException.__getattribute__")))
  (ch5:PySem.W.findIn K (.ref e5) "__getattr__"=some (none))
  (cc5:PySem.W.findIn K (.ref e5) "__class__"=some (some (.builtin "object.__class__")))
  (cn6:PySem.W.nsIn K mainGlobals "NoValue"=some (some (.ref e6)))
  (cl6:K.lookup e6=some (excClassObj enm6 eqn6 e6 eN6 ebs6 (.ref e0::vbm) true esn6 esu6 eab6 eco6 edd6 eka6 ekb6 ekc6 ekd6 eke6 "ValueError.__new__"))
  (ck6:PySem.W.keepIn K (.ref e6)=true)
  (cs6:PySem.W.findIn K (.ref e6) "__setattr__"=some (some (.builtin "object.__setattr__")))
  (cg6:PySem.W.findIn K (.ref e6) "__getattribute__"=some (some (.builtin "BaseException.__getattribute__")))
  (ch6:PySem.W.findIn K (.ref e6) "__getattr__"=some (none))
  (cc6:PySem.W.findIn K (.ref e6) "__class__"=some (some (.builtin "object.__class__")))
  (cn7:PySem.W.nsIn K mainGlobals "Twice"=some (some (.ref e7)))
  (cl7:K.lookup e7=some (excClassObj enm7 eqn7 e7 eN7 ebs7 (.ref e0::vbm) true esn7 esu7 eab7 eco7 edd7 eka7 ekb7 ekc7 ekd7 eke7 "ValueError.__new__"))
  (ck7:PySem.W.keepIn K (.ref e7)=true)
  (cs7:PySem.W.findIn K (.ref e7) "__setattr__"=some (some (.builtin "object.__setattr__")))
  (cg7:PySem.W.findIn K (.ref e7) "__getattribute__"=some (some (.builtin "BaseException.__getattribute__")))
  (ch7:PySem.W.findIn K (.ref e7) "__getattr__"=some (none))
  (cc7:PySem.W.findIn K (.ref e7) "__class__"=some (some (.builtin "object.__class__")))
  (cn8:PySem.W.nsIn K mainGlobals "NoName"=some (some (.ref e8)))
  (cl8:K.lookup e8=some (excClassObj enm8 eqn8 e8 eN8 ebs8 (.ref e0::vbm) true esn8 esu8 eab8 eco8 edd8 eka8 ekb8 ekc8 ekd8 eke8 "ValueError.__new__"))
  (ck8:PySem.W.keepIn K (.ref e8)=true)
  (cs8:PySem.W.findIn K (.ref e8) "__setattr__"=some (some (.builtin "object.__setattr__")))
  (cg8:PySem.W.findIn K (.ref e8) "__getattribute__"=some (some (.builtin "BaseException.__getattribute__")))
  (ch8:PySem.W.findIn K (.ref e8) "__getattr__"=some (none))
  (cc8:PySem.W.findIn K (.ref e8) "__class__"=some (some (.builtin "object.__class__")))
  (cn9:PySem.W.nsIn K mainGlobals "BadShape"=some (some (.ref e9)))
  (cl9:K.lookup e9=some (excClassObj enm9 eqn9 e9 eN9 ebs9 (.ref e0::vbm) true esn9 esu9 eab9 eco9 edd9 eka9 ekb9 ekc9 ekd9 eke9 "ValueError.__new__"))
  (ck9:PySem.W.keepIn K (.ref e9)=true)
  (cs9:PySem.W.findIn K (.ref e9) "__setattr__"=some (some (.builtin "object.__setattr__")))
  (cg9:PySem.W.findIn K (.ref e9) "__getattribute__"=some (some (.builtin "BaseException.__getattribute__")))
  (ch9:PySem.W.findIn K (.ref e9) "__getattr__"=some (none))
  (cc9:PySem.W.findIn K (.ref e9) "__class__"=some (some (.builtin "object.__class__")))
  (cn10:PySem.W.nsIn K mainGlobals "BadDeed"=some (some (.ref e10)))
  (cl10:K.lookup e10=some (excClassObj enm10 eqn10 e10 eN10 ebs10 (.ref e0::vbm) true esn10 esu10 eab10 eco10 edd10 eka10 ekb10 ekc10 ekd10 eke10 "ValueError.__new__"))
  (ck10:PySem.W.keepIn K (.ref e10)=true)
  (cs10:PySem.W.findIn K (.ref e10) "__setattr__"=some (some (.builtin "object.__setattr__")))
  (cg10:PySem.W.findIn K (.ref e10) "__getattribute__"=some (some (.builtin "BaseException.__getattribute__")))
  (ch10:PySem.W.findIn K (.ref e10) "__getattr__"=some (none))
  (cc10:PySem.W.findIn K (.ref e10) "__class__"=some (some (.builtin "object.__class__")))
  (cn11:PySem.W.nsIn K mainGlobals "Unsound"=some (some (.ref e11)))
  (cl11:K.lookup e11=some (excClassObj enm11 eqn11 e11 eN11 ebs11 (.ref e0::vbm) true esn11 esu11 eab11 eco11 edd11 eka11 ekb11 ekc11 ekd11 eke11 "ValueError.__new__"))
  (ck11:PySem.W.keepIn K (.ref e11)=true)
  (cs11:PySem.W.findIn K (.ref e11) "__setattr__"=some (some (.builtin "object.__setattr__")))
  (cg11:PySem.W.findIn K (.ref e11) "__getattribute__"=some (some (.builtin "BaseException.__getattribute__")))
  (ch11:PySem.W.findIn K (.ref e11) "__getattr__"=some (none))
  (cc11:PySem.W.findIn K (.ref e11) "__class__"=some (some (.builtin "object.__class__")))
  (crd:PySem.W.readsIn K e0 (.type "type")=true)
  (cty:PySem.W.typeIn K (.ref e0)=some (.type "type"))
  (cfi:PySem.W.findCls K (.ref e0) (.type "type") "__init__"=some (.val (.builtin "ValueError.__init__")))
  (ndup:([e0,e1,e2,e3,e4,e5,e6,e7,e8,e9,e10,e11]:List Addr).Nodup)
  (ia0:PySem.W.findIn K (.ref e5) "__init__"=some (some (.ref fi0)))
  (il0:K.lookup fi0=some ⟨oci0,odi0,.func (PySem.W.fnOf "__init__" "BadRow.__init__" (av cw) (ar cw) (af cw) .none kVi0 dci0 pmi0 ani0 cdi0 cti0),sli0⟩)
  (ic0:PySem.W.codeIn K cdi0 "BadRow.__init__"=true)
  (ik0:PySem.W.keepIn K (.ref fi0)=true)
  (it0:PySem.W.typeIn K (.ref fi0)=some (.type "function"))
  (iw0:PySem.W.findIn K (.ref e5) "row"=some none):
  ∃fd:FuncData,(∀(s:Shared) (v:Value),BindsTo s fd ⟨[v],[]⟩ [("script",v)])∧∀base:Heap,K.In base→base.Ns mainGlobals mg→h9 l.prog w K mg base CX0 9 fa fd ["script"] (Ep K):=by
 have e:=hfa.symm.trans (PySem.W.mg_of X G a35);cases e
 have G0:Gs w K mg ⟨e0,e1,e2,e3,e4,e5,e6,e7,e8,e9,e10,e11⟩:=⟨⟨ndup,PySem.W.mg_of X G cn0,PySem.W.mg_of X G cn1,PySem.W.mg_of X G cn2,PySem.W.mg_of X G cn3,PySem.W.mg_of X G cn4,PySem.W.mg_of X G cn5,PySem.W.mg_of X G cn6,PySem.W.mg_of X G cn7,PySem.W.mg_of X G cn8,PySem.W.mg_of X G cn9,PySem.W.mg_of X G cn10,PySem.W.mg_of X G cn11,Xc.mk' cl0 ck0 cs0 cg0 ch0 cc0 (.inl rfl),Xc.mk' cl1 ck1 cs1 cg1 ch1 cc1 (.inr ⟨_,rfl⟩),Xc.mk' cl2 ck2 cs2 cg2 ch2 cc2 (.inr ⟨_,rfl⟩),Xc.mk' cl3 ck3 cs3 cg3 ch3 cc3 (.inr ⟨_,rfl⟩),Xc.mk' cl4 ck4 cs4 cg4 ch4 cc4 (.inr ⟨_,rfl⟩),Xc.mk' cl5 ck5 cs5 cg5 ch5 cc5 (.inr ⟨_,rfl⟩),Xc.mk' cl6 ck6 cs6 cg6 ch6 cc6 (.inr ⟨_,rfl⟩),Xc.mk' cl7 ck7 cs7 cg7 ch7 cc7 (.inr ⟨_,rfl⟩),Xc.mk' cl8 ck8 cs8 cg8 ch8 cc8 (.inr ⟨_,rfl⟩),Xc.mk' cl9 ck9 cs9 cg9 ch9 cc9 (.inr ⟨_,rfl⟩),Xc.mk' cl10 ck10 cs10 cg10 ch10 cc10 (.inr ⟨_,rfl⟩),Xc.mk' cl11 ck11 cs11 cg11 ch11 cc11 (.inr ⟨_,rfl⟩),crd,cty,cfi⟩,iw0,PySem.W.mg_none_of X G z0,PySem.W.mg_none_of X G z1,PySem.W.mg_none_of X G z2,PySem.W.mg_none_of X G z3,PySem.W.mg_none_of X G z4,PySem.W.mg_none_of X G z5,PySem.W.mg_none_of X G z6,PySem.W.mg_none_of X G z7,PySem.W.mg_none_of X G z8,PySem.W.mg_none_of X G z9,PySem.W.mg_none_of X G z10,PySem.W.mg_none_of X G z11,PySem.W.mg_none_of X G z12,⟨_,PySem.W.mg_of X G y0⟩,⟨_,PySem.W.mg_of X G y1⟩,⟨_,PySem.W.mg_of X G y2⟩,⟨_,PySem.W.mg_of X G y3⟩,⟨g4,PySem.W.mg_of X G y4,λH=>.inr ⟨_,_,_,x4,rfl,rfl,(by show (9:Nat)≤sizeLine;decide),(.cons ⟨_,rfl⟩ (.cons ⟨_,rfl⟩ (.cons ⟨_,rfl⟩ (.cons ⟨_,rfl⟩ (.cons ⟨_,rfl⟩ (.cons ⟨_,rfl⟩ (.cons ⟨_,rfl⟩ (.cons ⟨_,rfl⟩ (.cons ⟨_,rfl⟩ .nil)))))))))⟩⟩,⟨g5,PySem.W.mg_of X G y5,Mz [(dh5x0,"add",dt5x0,2,du5x0),(dh5x1,"sub",dt5x1,2,du5x1),(dh5x2,"mul",dt5x2,2,du5x2),(dh5x3,"neg",dt5x3,1,du5x3)] x5 ha5 (by intro e he;simp only[aav,aar,or_false] at he;rcases he with rfl | rfl | rfl | rfl <;> assumption) (by show aba ([Sum.inr "add",Sum.inr "sub",Sum.inr "mul",Sum.inr "neg"]:List Key);decide+kernel)⟩,⟨g6,PySem.W.mg_of X G y6,λH=>.inr ⟨_,_,_,x6,rfl,rfl,(by show (4:Nat)≤sizeLine;decide),(.cons ⟨_,rfl⟩ (.cons ⟨_,rfl⟩ (.cons ⟨_,rfl⟩ (.cons ⟨_,rfl⟩ .nil))))⟩⟩,⟨_,PySem.W.mg_of X G y7⟩,⟨_,PySem.W.mg_of X G y8⟩,⟨_,PySem.W.mg_of X G y9⟩,⟨_,PySem.W.mg_of X G y10⟩⟩;have F0:=ba (st:=pq) l0 c0 k0;have D0:Def K mg "made_of" pq ["text","signs"]:=⟨f0,_,F0,F0.binds (ps:=["text","signs"]) (λ_ _ _ _ _ _ us hl=>by refine us2 (P:=λus=>bindArgs _ ⟨us,[]⟩=pure (aau _ us)) hl ?_;intros;rfl),PySem.W.mg_of X G a0⟩;have F1:=ba (st:=qo) l1 c1 k1;have D1:Def K mg "is_name" qo ["word"]:=⟨f1,_,F1,F1.binds (ps:=["word"]) (λ_ _ _ _ _ _ us hl=>by refine us1 (P:=λus=>bindArgs _ ⟨us,[]⟩=pure (aau _ us)) hl ?_;intros;rfl),PySem.W.mg_of X G a1⟩;have F2:=ba (st:=Ck) l2 c2 k2;have D2:Def K mg "is_number" Ck ["word"]:=⟨f2,_,F2,F2.binds (ps:=["word"]) (λ_ _ _ _ _ _ us hl=>by refine us1 (P:=λus=>bindArgs _ ⟨us,[]⟩=pure (aau _ us)) hl ?_;intros;rfl),PySem.W.mg_of X G a2⟩;have F3:=ba (st:=Co) l3 c3 k3;have D3:Def K mg "how_many_below" Co ["word"]:=⟨f3,_,F3,F3.binds (ps:=["word"]) (λ_ _ _ _ _ _ us hl=>by refine us1 (P:=λus=>bindArgs _ ⟨us,[]⟩=pure (aau _ us)) hl ?_;intros;rfl),PySem.W.mg_of X G a3⟩;have F4:=ba (st:=kc) l4 c4 k4;have D4:Def K mg "is_term_word" kc ["word"]:=⟨f4,_,F4,F4.binds (ps:=["word"]) (λ_ _ _ _ _ _ us hl=>by refine us1 (P:=λus=>bindArgs _ ⟨us,[]⟩=pure (aau _ us)) hl ?_;intros;rfl),PySem.W.mg_of X G a4⟩;have F5:=ba (st:=qc) l5 c5 k5;have D5:Def K mg "number_or_text" qc ["word"]:=⟨f5,_,F5,F5.binds (ps:=["word"]) (λ_ _ _ _ _ _ us hl=>by refine us1 (P:=λus=>bindArgs _ ⟨us,[]⟩=pure (aau _ us)) hl ?_;intros;rfl),PySem.W.mg_of X G a5⟩;have F6:=ba (st:=Bc) l6 c6 k6;have D6:Def K mg "is_shape_word" Bc ["word"]:=⟨f6,_,F6,F6.binds (ps:=["word"]) (λ_ _ _ _ _ _ us hl=>by refine us1 (P:=λus=>bindArgs _ ⟨us,[]⟩=pure (aau _ us)) hl ?_;intros;rfl),PySem.W.mg_of X G a6⟩;have F7:=ba (st:=ky) l7 c7 k7;have D7:Def K mg "is_leaf_name" ky ["word","letter"]:=⟨f7,_,F7,F7.binds (ps:=["word","letter"]) (λ_ _ _ _ _ _ us hl=>by refine us2 (P:=λus=>bindArgs _ ⟨us,[]⟩=pure (aau _ us)) hl ?_;intros;rfl),PySem.W.mg_of X G a7⟩;have F8:=ba (st:=rb) l8 c8 k8;have D8:Def K mg "is_from" rb ["word"]:=⟨f8,_,F8,F8.binds (ps:=["word"]) (λ_ _ _ _ _ _ us hl=>by refine us1 (P:=λus=>bindArgs _ ⟨us,[]⟩=pure (aau _ us)) hl ?_;intros;rfl),PySem.W.mg_of X G a8⟩;have F9:=ba (st:=Cr) l9 c9 k9;have D9:Def K mg "is_source" Cr ["deed","word"]:=⟨f9,_,F9,F9.binds (ps:=["deed","word"]) (λ_ _ _ _ _ _ us hl=>by refine us2 (P:=λus=>bindArgs _ ⟨us,[]⟩=pure (aau _ us)) hl ?_;intros;rfl),PySem.W.mg_of X G a9⟩;have F10:=ba (st:=qw) l10 c10 k10;have D10:Def K mg "how_many_sources" qw ["deed"]:=⟨f10,_,F10,F10.binds (ps:=["deed"]) (λ_ _ _ _ _ _ us hl=>by refine us1 (P:=λus=>bindArgs _ ⟨us,[]⟩=pure (aau _ us)) hl ?_;intros;rfl),PySem.W.mg_of X G a10⟩;have F11:=ba (st:=ka) l11 c11 k11;have D11:Def K mg "is_deed" ka ["words"]:=⟨f11,_,F11,F11.binds (ps:=["words"]) (λ_ _ _ _ _ _ us hl=>by refine us1 (P:=λus=>bindArgs _ ⟨us,[]⟩=pure (aau _ us)) hl ?_;intros;rfl),PySem.W.mg_of X G a11⟩;have F12:=ba (st:=Ax) l12 c12 k12;have D12:Def K mg "is_price" Ax ["word"]:=⟨f12,_,F12,F12.binds (ps:=["word"]) (λ_ _ _ _ _ _ us hl=>by refine us1 (P:=λus=>bindArgs _ ⟨us,[]⟩=pure (aau _ us)) hl ?_;intros;rfl),PySem.W.mg_of X G a12⟩;have F13:=ba (st:=ku) l13 c13 k13;have D13:Def K mg "is_kind_row" ku ["words"]:=⟨f13,_,F13,F13.binds (ps:=["words"]) (λ_ _ _ _ _ _ us hl=>by refine us1 (P:=λus=>bindArgs _ ⟨us,[]⟩=pure (aau _ us)) hl ?_;intros;rfl),PySem.W.mg_of X G a13⟩;have F14:=ba (st:=kg) l14 c14 k14;have D14:Def K mg "is_does_row" kg ["words"]:=⟨f14,_,F14,F14.binds (ps:=["words"]) (λ_ _ _ _ _ _ us hl=>by refine us1 (P:=λus=>bindArgs _ ⟨us,[]⟩=pure (aau _ us)) hl ?_;intros;rfl),PySem.W.mg_of X G a14⟩;have F15:=ba (st:=ko) l15 c15 k15;have D15:Def K mg "is_rule_row" ko ["words"]:=⟨f15,_,F15,F15.binds (ps:=["words"]) (λ_ _ _ _ _ _ us hl=>by refine us1 (P:=λus=>bindArgs _ ⟨us,[]⟩=pure (aau _ us)) hl ?_;intros;rfl),PySem.W.mg_of X G a15⟩;have F16:=ba (st:=g9) l16 c16 k16;have D16:Def K mg "rows_in" g9 ["text"]:=⟨f16,_,F16,F16.binds (ps:=["text"]) (λ_ _ _ _ _ _ us hl=>by refine us1 (P:=λus=>bindArgs _ ⟨us,[]⟩=pure (aau _ us)) hl ?_;intros;rfl),PySem.W.mg_of X G a16⟩;have F17:=ba (st:=iu) l17 c17 k17;have D17:Def K mg "refuse_other_rows" iu ["rows"]:=⟨f17,_,F17,F17.binds (ps:=["rows"]) (λ_ _ _ _ _ _ us hl=>by refine us1 (P:=λus=>bindArgs _ ⟨us,[]⟩=pure (aau _ us)) hl ?_;intros;rfl),PySem.W.mg_of X G a17⟩;have F18:=ba (st:=ir) l18 c18 k18;have D18:Def K mg "read_words" ir ["words"]:=⟨f18,_,F18,F18.binds (ps:=["words"]) (λ_ _ _ _ _ _ us hl=>by refine us1 (P:=λus=>bindArgs _ ⟨us,[]⟩=pure (aau _ us)) hl ?_;intros;rfl),PySem.W.mg_of X G a18⟩;have F19:=ba (st:=fw) l19 c19 k19;have D19:Def K mg "deeds_by_rule" fw ["rows"]:=⟨f19,_,F19,F19.binds (ps:=["rows"]) (λ_ _ _ _ _ _ us hl=>by refine us1 (P:=λus=>bindArgs _ ⟨us,[]⟩=pure (aau _ us)) hl ?_;intros;rfl),PySem.W.mg_of X G a19⟩;have F20:=ba (st:=ij) l20 c20 k20;have D20:Def K mg "read_book" ij ["text"]:=⟨f20,_,F20,F20.binds (ps:=["text"]) (λ_ _ _ _ _ _ us hl=>by refine us1 (P:=λus=>bindArgs _ ⟨us,[]⟩=pure (aau _ us)) hl ?_;intros;rfl),PySem.W.mg_of X G a20⟩;have F21:=ba (st:=qk) l21 c21 k21;have D21:Def K mg "_law_hand" qk ["cell","k"]:=⟨f21,_,F21,F21.binds (ps:=["cell","k"]) (λ_ _ _ _ _ _ us hl=>by refine us2 (P:=λus=>bindArgs _ ⟨us,[]⟩=pure (aau _ us)) hl ?_;intros;rfl),PySem.W.mg_of X G a21⟩;have F22:=ba (st:=p7) l22 c22 k22;have D22:Def K mg "_law_draw" p7 ["hand","limit"]:=⟨f22,_,F22,F22.binds (ps:=["hand","limit"]) (λ_ _ _ _ _ _ us hl=>by refine us2 (P:=λus=>bindArgs _ ⟨us,[]⟩=pure (aau _ us)) hl ?_;intros;rfl),PySem.W.mg_of X G a22⟩;have F23:=ba (st:=qf) l23 c23 k23;have D23:Def K mg "_law_number" qf ["hand"]:=⟨f23,_,F23,F23.binds (ps:=["hand"]) (λ_ _ _ _ _ _ us hl=>by refine us1 (P:=λus=>bindArgs _ ⟨us,[]⟩=pure (aau _ us)) hl ?_;intros;rfl),PySem.W.mg_of X G a23⟩;have F24:=ba (st:=kj) l24 c24 k24;have D24:Def K mg "_law_any_word" kj ["hand","names"]:=⟨f24,_,F24,F24.binds (ps:=["hand","names"]) (λ_ _ _ _ _ _ us hl=>by refine us2 (P:=λus=>bindArgs _ ⟨us,[]⟩=pure (aau _ us)) hl ?_;intros;rfl),PySem.W.mg_of X G a24⟩;have F25:=ba (st:=kb) l25 c25 k25;have D25:Def K mg "_law_any_deed" kb ["hand"]:=⟨f25,_,F25,F25.binds (ps:=["hand"]) (λ_ _ _ _ _ _ us hl=>by refine us1 (P:=λus=>bindArgs _ ⟨us,[]⟩=pure (aau _ us)) hl ?_;intros;rfl),PySem.W.mg_of X G a25⟩;have F26:=ba (st:=ib) l26 c26 k26;have D26:Def K mg "_law_names" ib ["hand","size"]:=⟨f26,_,F26,F26.binds (ps:=["hand","size"]) (λ_ _ _ _ _ _ us hl=>by refine us2 (P:=λus=>bindArgs _ ⟨us,[]⟩=pure (aau _ us)) hl ?_;intros;rfl),PySem.W.mg_of X G a26⟩;have F27:=ba (st:=o8) l27 c27 k27;have D27:Def K mg "_law_row" o8 ["hand","names"]:=⟨f27,_,F27,F27.binds (ps:=["hand","names"]) (λ_ _ _ _ _ _ us hl=>by refine us2 (P:=λus=>bindArgs _ ⟨us,[]⟩=pure (aau _ us)) hl ?_;intros;rfl),PySem.W.mg_of X G a27⟩;have F28:=ba (st:=fe) l28 c28 k28;have D28:Def K mg "_law_settled" fe ["rows"]:=⟨f28,_,F28,F28.binds (ps:=["rows"]) (λ_ _ _ _ _ _ us hl=>by refine us1 (P:=λus=>bindArgs _ ⟨us,[]⟩=pure (aau _ us)) hl ?_;intros;rfl),PySem.W.mg_of X G a28⟩;have F29:=ba (st:=kf) l29 c29 k29;have D29:Def K mg "_law_rows" kf ["script","names"]:=⟨f29,_,F29,F29.binds (ps:=["script","names"]) (λ_ _ _ _ _ _ us hl=>by refine us2 (P:=λus=>bindArgs _ ⟨us,[]⟩=pure (aau _ us)) hl ?_;intros;rfl),PySem.W.mg_of X G a29⟩;have F30:=ba (st:=ou) l30 c30 k30;have D30:Def K mg "_law_line" ou ["row"]:=⟨f30,_,F30,F30.binds (ps:=["row"]) (λ_ _ _ _ _ _ us hl=>by refine us1 (P:=λus=>bindArgs _ ⟨us,[]⟩=pure (aau _ us)) hl ?_;intros;rfl),PySem.W.mg_of X G a30⟩;have F31:=ba (st:=rm) l31 c31 k31;have D31:Def K mg "_law_bad_from" rm ["word","hand"]:=⟨f31,_,F31,F31.binds (ps:=["word","hand"]) (λ_ _ _ _ _ _ us hl=>by refine us2 (P:=λus=>bindArgs _ ⟨us,[]⟩=pure (aau _ us)) hl ?_;intros;rfl),PySem.W.mg_of X G a31⟩;have F32:=ba (st:=ph) l32 c32 k32;have D32:Def K mg "_law_bad_word" ph ["words","at","hand"]:=⟨f32,_,F32,F32.binds (ps:=["words","at","hand"]) (λ_ _ _ _ _ _ us hl=>by refine us3 (P:=λus=>bindArgs _ ⟨us,[]⟩=pure (aau _ us)) hl ?_;intros;rfl),PySem.W.mg_of X G a32⟩;have F33:=ba (st:=kr) l33 c33 k33;have D33:Def K mg "_law_spoiled" kr ["line","hand"]:=⟨f33,_,F33,F33.binds (ps:=["line","hand"]) (λ_ _ _ _ _ _ us hl=>by refine us2 (P:=λus=>bindArgs _ ⟨us,[]⟩=pure (aau _ us)) hl ?_;intros;rfl),PySem.W.mg_of X G a33⟩;have F34:=ba (st:=kn) l34 c34 k34;have D34:Def K mg "_law_row_of" kn ["text"]:=⟨f34,_,F34,F34.binds (ps:=["text"]) (λ_ _ _ _ _ _ us hl=>by refine us1 (P:=λus=>bindArgs _ ⟨us,[]⟩=pure (aau _ us)) hl ?_;intros;rfl),PySem.W.mg_of X G a34⟩;have F35:=ba (st:=xx) l35 c35 k35;refine ⟨PySem.W.fnOf "law" "law" (av xx) (ar xx) (af xx) .none kV35 dc35 pm35 an35 cd35 ct35,λs v=>.of_eq rfl,λbase _ _=>?_⟩;have FI0:=ba (st:=cw) il0 ic0 ik0;have HI_BadRow:HasI l.prog w K mg base 1 e5 ["self","row"] (lu e5 "row"):=⟨fi0,_,ia0,it0,sj (k:=0) (κ:=⟨e0,e1,e2,e3,e4,e5,e6,e7,e8,e9,e10,e11⟩) G0 iw0 FI0,FI0.binds (ps:=["self","row"]) (λ_ _ _ _ _ _ us hl=>by refine us2 (P:=λus=>bindArgs _ ⟨us,[]⟩=pure (aau _ us)) hl ?_;intros;rfl)⟩;have H0:Has l.prog w K mg base 1 "made_of" ["text","signs"] my:=Lw (k:=0) G0   D0;have H1:Has l.prog w K mg base 2 "is_name" ["word"] gh:=K3 (k:=1) G0 (H0.up (by decide))  D1;have H2:Has l.prog w K mg base 2 "is_number" ["word"] jx:=hasNum (k:=1) G0 (H0.up (by decide))  D2;have H3:Has l.prog w K mg base 1 "how_many_below" ["word"] Cz:=hasHow (k:=0) G0   D3;have H4:Has l.prog w K mg base 3 "is_term_word" ["word"] spTW:=Jx (k:=2) G0 (H1.up (by decide)) (H2.up (by decide))  D4;have H5:Has l.prog w K mg base 3 "number_or_text" ["word"] qd:=Mq (k:=2) G0 (H2.up (by decide))  D5;have H6:Has l.prog w K mg base 4 "is_shape_word" ["word"] yt:=hasShB (k:=3) G0 (H4.up (by decide))  D6;have H7:Has l.prog w K mg base 1 "is_leaf_name" ["word","letter"] jt:=Iz (k:=0) G0   D7;have H8:Has l.prog w K mg base 2 "is_from" ["word"] vx:=Ll (k:=1) G0 (H7.up (by decide))  D8;have H9:Has l.prog w K mg base 3 "is_source" ["deed","word"] Al:=hasSrc (k:=2) G0 (H8.up (by decide)) (H7.up (by decide)) (H2.up (by decide))  D9;have H10:Has l.prog w K mg base 2 "how_many_sources" ["deed"] wy:=Lq (k:=1) G0 (H3.up (by decide))  D10;have H11:Has l.prog w K mg base 4 "is_deed" ["words"] oh:=Ik (k:=3) G0 (H10.up (by decide)) (H9.up (by decide))  D11;have H12:Has l.prog w K mg base 3 "is_price" ["word"] Dq:=hasPrB (k:=2) G0 (H2.up (by decide))  D12;have H13:Has l.prog w K mg base 3 "is_kind_row" ["words"] n6:=J9 (k:=2) G0 (H1.up (by decide))  D13;have H14:Has l.prog w K mg base 5 "is_does_row" ["words"] oa:=Jc (k:=4) G0 (H11.up (by decide)) (H1.up (by decide))  D14;have H15:Has l.prog w K mg base 5 "is_rule_row" ["words"] oj:=Jm (k:=4) G0 (H1.up (by decide)) (H12.up (by decide)) (H6.up (by decide))  D15;have H16:Has l.prog w K mg base 1 "rows_in" ["text"] jm:=Ff (k:=0) G0   D16;have H17:i6 l.prog w K mg base 6 "refuse_other_rows" ["rows"] (jj (Cl.mk e0 e1 e2 e3 e4 e5 e6 e7 e8 e9 e10 e11)):=Gj (k:=5) G0 (H14.up (by decide)) (H13.up (by decide)) (H15.up (by decide))  HI_BadRow (by decide) D17;have H18:Has l.prog w K mg base 4 "read_words" ["words"] fq:=G9 (k:=3) G0 (H5.up (by decide))  D18;have H19:i6 l.prog w K mg base 5 "deeds_by_rule" ["rows"] (ly (Cl.mk e0 e1 e2 e3 e4 e5 e6 e7 e8 e9 e10 e11)):=Bg (k:=4) G0 (H18.up (by decide))  HI_BadRow (by decide) D19;have H20:i6 l.prog w K mg base 7 "read_book" ["text"] (oi (Cl.mk e0 e1 e2 e3 e4 e5 e6 e7 e8 e9 e10 e11)):=Gb (k:=6) G0 (H19.up (by decide)) (H18.up (by decide)) (H17.up (by decide)) (H16.up (by decide))  D20;have H21:Has l.prog w K mg base 1 "_law_hand" ["cell","k"] vz:=Ls (k:=0) G0   D21;have H22:Has l.prog w K mg base 1 "_law_draw" ["hand","limit"] di:=Mr (k:=0) G0   D22;have H23:Has l.prog w K mg base 2 "_law_number" ["hand"] xq:=L9 (k:=1) G0 (H22.up (by decide))  D23;have H24:Has l.prog w K mg base 3 "_law_any_word" ["hand","names"] vp:=Jg (k:=2) G0 (H22.up (by decide)) (H23.up (by decide))  D24;have H25:Has l.prog w K mg base 3 "_law_any_deed" ["hand"] om:=Ja (k:=2) G0 (H22.up (by decide)) (H23.up (by decide))  D25;have H26:Has l.prog w K mg base 2 "_law_names" ["hand","size"] ng:=Gq (k:=1) G0 (H22.up (by decide))  D26;have H27:Has l.prog w K mg base 4 "_law_row" ["hand","names"] Cb:=K5 (k:=3) G0 (H25.up (by decide)) (H24.up (by decide)) (H22.up (by decide))  D27;have H28:Has l.prog w K mg base 1 "_law_settled" ["rows"] ki:=Cu (k:=0) G0   D28;have H29:Has l.prog w K mg base 5 "_law_rows" ["script","names"] (xw K):=Jq (k:=4) G0 (H21.up (by decide)) (H27.up (by decide)) (H28.up (by decide))  D29;have H30:Has l.prog w K mg base 1 "_law_line" ["row"] Cn:=Mk (k:=0) G0   D30;have H31:Has l.prog w K mg base 2 "_law_bad_from" ["word","hand"] Bi:=Mf (k:=1) G0 (H22.up (by decide))  D31;have H32:Has l.prog w K mg base 3 "_law_bad_word" ["words","at","hand"] Cv:=L5 (k:=2) G0 (H31.up (by decide)) (H22.up (by decide))  D32;have H33:Has l.prog w K mg base 4 "_law_spoiled" ["line","hand"] vg:=Hf (k:=3) G0 (H32.up (by decide)) (H22.up (by decide))  D33;have H34:Has l.prog w K mg base 8 "_law_row_of" ["text"] xi:=Ki (k:=7) G0 (H20.up (by decide))  D34;exact hasLaw (k:=8) G0 (H25.up (by decide)) (H22.up (by decide)) (H21.up (by decide)) (H30.up (by decide)) (H26.up (by decide)) (H34.up (by decide)) (H29.up (by decide)) (H33.up (by decide)) (H20.up (by decide))  F35
theorem walk {l:PySem.W.OpenLaw} {q:Program} {loose:List Str} {XP:(Str→Option Value)→Heap→Prop} {YP:World→Heap→Prop} {d:DefRec} {K:Params→PySem.W.Frag} (hn:l.most=some 63) (hdf:d.params.defaults=[])
  (hY:∀(w:World) (h:Heap),YP w h→(K w.params).In h)
  (F:∀(w:World) (mg:Str→Option Value) (fa:Addr) (h:Heap),(K w.params).In h→h.Ns mainGlobals mg→mg d.name=some (.ref fa)→
   ∃fd:FuncData,(∀(s:Shared) (u:Value),BindsTo s fd ⟨[u],[]⟩ [("script",u)])∧∀base:Heap,(K w.params).In base→base.Ns mainGlobals mg→h9 l.prog w (K w.params) mg base CX0 9 fa fd ["script"] (Ep (K w.params))):
  PySem.W.WalkO q loose XP YP l.row.toRowW d [] (λf vs=>PySem.call f vs):=
 L2.Lz (n:=63) (k:=9) (x:="script") (CX:=λ_=>CX0) (sp:=λw=>Ep (K w.params)) hn (by decide) hdf ⟨rfl,by decide,by decide⟩ hY F (λ_ _ a ns hl _ hS=>⟨a,ns,rfl,hS,hl,λ_=>rfl⟩) λ_ _ _ _ _ z=>z
end K32
namespace PySem.W.Fast
def tw6023445416610660894:=()
def tw12696352114181985100:=()
def tw493776514478742585:=()
def tw1211605451783588657:=()
def tw8467361652929433897:=()
def tw14362054643389413703:=()
def tw12523739281292776442:=()
def tw669132517115014980:=()
def tw4736935129424971007:=()
def tw14451894576524360088:=()
def tw11116476527342191411:=()
def tw1519850240939485221:=()
def tw16888004373889379603:=()
def tw3749054862064024591:=()
def tw16561817662074040510:=()
def tw15024414710815808828:=()
def tw1673609124509289872:=()
def tw17340365663826691438:=()
def tw7381034117756398555:=()
def tw12557982290185042088:=()
def tw5177677218329031465:=()
def tw10621904264010207543:=()
def tw10343525286920954188:=()
def tw4232792372682092786:=()
def tw1561793240871354401:=()
def tw11358339342145975117:=()
def tw17019897516383960584:=()
def tw17257944537401509450:=()
def tw5846166686048986595:=()
def tw9273378093074737836:=()
def tw7683344215840216087:=()
def tw1614392199447725728:=()
def tw5189802968276559697:=()
def tw8453846768399502624:=()
def tw10736536760164158516:=()
def tw10095301485927122380:=()
def tw17998696443593104380:=()
def tw10914392610843104414:=()
def tw10068721608466140946:=()
def tw212210207973039563:=()
def tw15453811289081590983:=()
def tw11454156717855186649:=()
def tw16834878356637720020:=()
def tw3298302664131833149:=()
def tw177828198266750277:=()
def tw10345806424336966233:=()
def tw14947856008443070513:=()
def tw10545689643171812708:=()
def tw352040791063779719:=()
def tw3794655781803802714:=()
def tw120726558714468101:=()
def tw11252262101997266709:=()
def tw2170285927678559020:=()
def tw6083207730588293131:=()
def tw13743457737562754487:=()
def tw7681035124326835208:=()
def tw9629415139103151697:=()
def tw11908188749630262421:=()
def tw3185323065809840033:=()
def tw17003448912339757916:=()
def tw2012759375180842308:=()
def tw6203468335865195524:=()
def tw13740618077708820609:=()
def tw9478810201741936487:=()
def tw5109389757369619433:=()
def tw3650512101212696198:=()
def tw2782991408156508314:=()
def tw14292709947890523923:=()
def tw13511391135091649180:=()
def tw1074995349890862541:=()
def tw17647822409894998637:=()
def tw16031675663589390376:=()
def tw18052502288082948537:=()
def tw13330010892585848673:=()
def tw7367791483419066038:=()
def tw13032958394620519335:=()
def tw11948217437635087755:=()
def tw12475526681384800617:=()
def tw11524886365114159911:=()
def tw7311920945290988861:=()
def tw5960768134652147736:=()
def tw17674757385587345478:=()
def tw5363397484031781125:=()
def tw1180919983383023864:=()
def tw15152449292381143632:=()
def tw7651008280292797736:=()
def tw7061218022831904418:=()
def tw1356978299369591180:=()
def tw4711823904873324313:=()
def tw9265443406173047395:=()
def tw1292954818276382901:=()
def tw5692088008629711911:=()
def tw13363686572217736097:=()
def tw7112450163571060142:=()
def tw2242822388061023215:=()
def tw2149325065770979434:=()
def tw1510261227221877699:=()
def tw14101765888717454931:=()
def tw7701151013369479321:=()
def tw2446026793949780026:=()
def tw1514996954548039626:=()
def tw1911254594603944279:=()
def tw3391397360320168272:=()
def tw3273395670752206605:=()
def tw2877375356131519036:=()
def tw6645978844742922848:=()
def tw18226714004354185006:=()
def tw15263752494636502854:=()
def tw4227526680761696961:=()
def tw2657980265803350216:=()
def tw14991683223845175243:=()
def tw16350996032440996321:=()
def tw951916855344055034:=()
def tw868840372405570704:=()
def tw14576109187233825458:=()
def tw2274329683082021714:=()
def tw15807864826401000822:=()
def tw16228884921421476896:=()
def tw16089620240916728013:=()
def tw18360066848109563372:=()
def tw1119176331930666654:=()
def tw18381753704811465571:=()
def tw15280158649447890372:=()
def tw6961964189948937185:=()
def tw5160329344754552766:=()
def tw14639485681637909778:=()
def tw8836655180278252425:=()
def tw14833389207720688399:=()
def tw9981922501431105506:=()
def tw709642041262873793:=()
def tw7244213770303031089:=()
def tw6219434436738068993:=()
def tw388578329998897087:=()
def tw15201199471213002459:=()
def tw11404925488711712158:=()
def tw8406130686712607467:=()
def tw7940483724143881465:=()
def tw18041785318076064288:=()
def tw2302783832598369400:=()
def tw16499617812752752504:=()
def tw5529553014714152156:=()
def tw12333279600083837238:=()
def tw7628904609261616924:=()
def tw6751657525220123178:=()
def tw15666118943483676580:=()
def tw6699296219922241892:=()
def tw16323762224722303048:=()
def tw3358854249512046284:=()
def tw17229034195940751059:=()
def tw16498081594050084975:=()
def tw17759718278759439269:=()
def tw15656516900052463210:=()
def tw16506723862027961697:=()
def tw11896825471685176033:=()
def tw360090311690866210:=()
def tw12638957245686924455:=()
def tw10452075740810221543:=()
def tw220574920252867600:=()
def tw16126490311615198416:=()
def tw6086008911808002967:=()
def tw4530276964564419042:=()
def tw14824848866971374878:=()
def tw15666624244267334912:=()
def tw17005862824890528167:=()
def tw3159009730868403010:=()
def tw14580064529544011877:=()
def tw8054104540911936380:=()
def tw7484486625256675029:=()
def tw11632126762657276674:=()
def tw17782489748708315590:=()
def tw11522999675962061713:=()
def tw127580709512166512:=()
def tw15046197640937342337:=()
def tw2120857136513958461:=()
def tw182790179644936475:=()
def tw14998847102737041890:=()
def tw1938241459022619639:=()
def tw12420521232513270824:=()
def tw1670626202085643469:=()
def tw9589874276801494544:=()
def tw118251943711629104:=()
def tw18097697166082698637:=()
def tw271880741291798395:=()
def tw18268637941470523822:=()
def tw10171952158913757062:=()
def tw17883323820976031504:=()
def tw1967794271351627010:=()
def tw7730818158530758764:=()
def tw11732021956625453533:=()
def tw2126568092678280519:=()
def tw2077961983512139255:=()
def tw9391086848912362497:=()
def tw17809406803643467690:=()
def tw3099174472105792423:=()
def tw14174911477984386681:=()
def tw7002268659309057196:=()
def tw435242258017811328:=()
def tw27792297781066901:=()
def tw556589002761735540:=()
def tw12902220376089856617:=()
def tw1114663113120063472:=()
def tw17710695561642067761:=()
def tw16461888339312138065:=()
def tw1006525295878026802:=()
def tw8433755219785981493:=()
def tw12956762522247595294:=()
def tw16799567860923074325:=()
def tw9213732107263564443:=()
def tw9815906354544914708:=()
def tw6386880803082881575:=()
def tw2294101422229525221:=()
def tw9444691806249639590:=()
def tw14365780407168750439:=()
def tw8306587209383276162:=()
def tw16721939115789840421:=()
def tw16629164073803276596:=()
def tw11233747287483138336:=()
def tw10028520732841612018:=()
def tw13930286928054228673:=()
def tw9310593950475824842:=()
def tw13467360557142530097:=()
def tw8692989095940525574:=()
def tw10269756632832341389:=()
def tw8488557266793971580:=()
def tw12052480259229258122:=()
def tw3321499920424480166:=()
def tw13446940071548788080:=()
def tw5781798350978443059:=()
def tw7847713072994469709:=()
def tw17030005687814494426:=()
def tw564021072674724841:=()
def tw1103188425525055059:=()
def tw16718474096404632371:=()
def tw1863823373040581734:=()
def tw11221734722487853820:=()
def tw13572959296808681411:=()
def tw7426932116311965139:=()
def tw5963408455014430829:=()
def tw13664040788283704334:=()
def tw8069267012697656585:=()
def tw13579779929584164799:=()
def tw2943603791750634365:=()
def tw9005868819189653709:=()
def tw4555092446746807159:=()
def tw2668661536444002542:=()
def tw15598714879923360748:=()
def tw3052211689591112807:=()
def tw4941981436575326400:=()
def tw3504573604214370136:=()
def tw14315271115724919956:=()
def tw2121230606712206677:=()
def tw13379904686522637519:=()
def tw10491580807958958940:=()
def tw3911990648527688745:=()
def tw7707663967856590262:=()
def tw18251873302072893254:=()
def tw4891161028786081633:=()
def tw6671998012106453114:=()
def tw4060826780666620351:=()
def tw9798642401232940713:=()
def tw3671326535359519972:=()
def tw7841467520604257698:=()
def tw9383601773999780641:=()
def tw17714694008303445276:=()
def tw11070710045717354723:=()
def tw5550454748689247108:=()
def tw3236631495299080718:=()
def tw8742526905943594018:=()
def tw5671358971682803032:=()
def tw10026597154294424240:=()
def tw10198762556415420848:=()
def tw3391082461087478354:=()
def tw17875842035639866093:=()
def tw12738842006615667934:=()
def tw15628810575010550284:=()
def tw10775964021584641473:=()
def tw4877621690875521221:=()
def tw2099539865565420883:=()
def tw10096659919636074692:=()
def tw7027333604134368588:=()
def tw9985249429914832086:=()
def tw10488475178502227501:=()
def tw17956088370505219255:=()
def tw13982181477440619605:=()
def tw5625536691822635144:=()
def tw10335356607857727890:=()
def tw15355778321097404306:=()
def tw11154954523997880352:=()
def tw14392886301779021472:=()
def tw9135129713858684994:=()
def tw7484872640838059936:=()
def tw16269336410273222399:=()
def tw8807407488059908256:=()
def tw13347115266737226044:=()
def tw12281347040760854089:=()
def tw7833515697758739387:=()
def tw16751499437795332921:=()
def tw3760052284965668634:=()
def tw6349824508893796406:=()
def tw10187593442751376226:=()
def tw5007178429597396728:=()
def tw665887709100256961:=()
def tw10798041147191467756:=()
def tw7758675787827345914:=()
def tw12368969783197830673:=()
def tw10547534189102525050:=()
def tw11978149428465277490:=()
def tw11731268390856942433:=()
def tw5825219216145377752:=()
def tw10230351684779331758:=()
def tw221523850223599255:=()
def tw11926189056171386241:=()
def tw8007073306027765761:=()
def tw16125958230297379663:=()
def tw1748985692410426072:=()
def tw12311546801891641473:=()
def tw18182536578256981371:=()
def tw16872634113204191959:=()
def tw11361946306712660460:=()
def tw3595672292990108620:=()
def tw9579262701129595676:=()
def tw9074876221848811238:=()
def tw10779549735929700164:=()
def tw3509487308189312343:=()
def tw1351144015647481911:=()
def tw18347513031861021486:=()
def tw1436139875103369816:=()
def tw14790386009329503311:=()
def tw6986104321270244350:=()
def tw5091679432662730191:=()
def tw11616909411747922473:=()
def tw5177702924873178233:=()
def tw12331317412288452413:=()
def tw388531125275662356:=()
def tw3364614955426929219:=()
def tw17874249284391177713:=()
def tw15759699850132389700:=()
def tw1103860561561436147:=()
def tw12047011999042754344:=()
def tw16612919180113335321:=()
def tw4516738948885807177:=()
def tw1266792450473771906:=()
def tw6536389329185027312:=()
def tw12883089747086012210:=()
def tw11255066595507284512:=()
def tw14243181965656076718:=()
def tw17982575167382075043:=()
def tw4300263105489509439:=()
def tw14133769497371790046:=()
def tw8652608892072354328:=()
def tw3860504302781830444:=()
def tw18344957282271430344:=()
def tw15267854512025268756:=()
def tw18301086383789210929:=()
def tw14868622384826770202:=()
def tw7736174790049956233:=()
def tw8293486989453887006:=()
def tw17373954271966092218:=()
def tw9102176077430086172:=()
def tw3777504546077409085:=()
def tw17375524581721327203:=()
def tw545960156251076787:=()
def tw18048476407977894336:=()
def tw3070417999899119339:=()
def tw4325310566810160654:=()
def tw11119098181753951455:=()
def tw15664220645765760624:=()
def tw4276150861854265132:=()
def tw8634194980959823627:=()
def tw3366256389138598879:=()
def tw16076424400957342050:=()
def tw14423859390098806763:=()
def tw4671090449736851084:=()
def tw8023313580411516546:=()
def tw12276539399304120155:=()
def tw11383857554671738856:=()
def tw15051929911665940074:=()
def tw3591835249109937930:=()
def tw5962436899697574813:=()
def tw12604507224164514680:=()
def tw15242160703019599513:=()
def tw9280015156344340553:=()
def tw4526986792435909026:=()
def tw17006819383743428025:=()
def tw12458200555458321357:=()
def tw13092085306752227206:=()
def tw10382935030670082472:=()
def tw3993292028328321375:=()
def tw6338064524626234227:=()
def tw12656218127860701657:=()
def tw18325403696043572603:=()
def tw10808825051205341415:=()
def tw7223610580513786671:=()
def tw641547315296071071:=()
def tw1561455053104570699:=()
def tw9680141980935167103:=()
def tw721444470326072615:=()
def tw12462729611704013257:=()
def tw3990150638240391882:=()
def tw4972198151795329054:=()
def tw2573893647298570196:=()
def tw7403819091131305559:=()
def tw8734808815656672286:=()
def tw2583072074643492044:=()
def tw12373074603859833937:=()
def tw6744225216240429852:=()
def tw15175699928805734767:=()
def tw726188713342088495:=()
def tw7198001237567859675:=()
def tw11106139671262936807:=()
def tw7912531502660133599:=()
def tw7647587826618216703:=()
def tw15519083039596006248:=()
def tw9891710801650884467:=()
def tw11505040674886298554:=()
def tw11736903181904748257:=()
def tw4554030725242556777:=()
def tw15246603054816816109:=()
def tw5802567195699872524:=()
def tw13048355831919002856:=()
def tw17164761653731682954:=()
def tw4999790102854442477:=()
def tw4610302107787175256:=()
def tw10941149423848204001:=()
def tw9831809675788670669:=()
def tw14133523075921127109:=()
def tw2849315226556517617:=()
def tw4838641318986355609:=()
def tw9077070367570107520:=()
def tw3293016196474632529:=()
def tw14130473983455305496:=()
def tw16355461109458955073:=()
def tw12052092290790884654:=()
def tw13797918124246607081:=()
def tw85663413614588332:=()
def tw15998986203796635199:=()
def tw10154279090330808780:=()
def tw14160524954172326585:=()
def tw711889288816381846:=()
end PySem.W.Fast
open PySem PySem.W PyProof.Rows
set_option maxRecDepth 100000 in
set_option maxHeartbeats 0 in
theorem PySem.Challenge.cw_pricecover_k32_bad_rows_holds : PySem.Challenge.rw_pricecover_k32_bad_rows.Holds := by
 w_on;o_law;k_head;(case hw=>w_witness2)
 k_fill
 refine K32.walk (l:=PySem.Challenge.rw_pricecover_k32_bad_rows) rfl rfl (fun w h Y=>PySem.W.kIn_of Y) ?F
 case F=>
  intro w mg fa h KX G hmg
  refine' K32.all_mk KX G hmg ?a0 ?l0 ?c0 ?k0 ?a1 ?l1 ?c1 ?k1 ?a2 ?l2 ?c2 ?k2 ?a3 ?l3 ?c3 ?k3 ?a4 ?l4 ?c4 ?k4 ?a5 ?l5 ?c5 ?k5 ?a6 ?l6 ?c6 ?k6 ?a7 ?l7 ?c7 ?k7 ?a8 ?l8 ?c8 ?k8 ?a9 ?l9 ?c9 ?k9 ?a10 ?l10 ?c10 ?k10 ?a11 ?l11 ?c11 ?k11 ?a12 ?l12 ?c12 ?k12 ?a13 ?l13 ?c13 ?k13 ?a14 ?l14 ?c14 ?k14 ?a15 ?l15 ?c15 ?k15 ?a16 ?l16 ?c16 ?k16 ?a17 ?l17 ?c17 ?k17 ?a18 ?l18 ?c18 ?k18 ?a19 ?l19 ?c19 ?k19 ?a20 ?l20 ?c20 ?k20 ?a21 ?l21 ?c21 ?k21 ?a22 ?l22 ?c22 ?k22 ?a23 ?l23 ?c23 ?k23 ?a24 ?l24 ?c24 ?k24 ?a25 ?l25 ?c25 ?k25 ?a26 ?l26 ?c26 ?k26 ?a27 ?l27 ?c27 ?k27 ?a28 ?l28 ?c28 ?k28 ?a29 ?l29 ?c29 ?k29 ?a30 ?l30 ?c30 ?k30 ?a31 ?l31 ?c31 ?k31 ?a32 ?l32 ?c32 ?k32 ?a33 ?l33 ?c33 ?k33 ?a34 ?l34 ?c34 ?k34 ?a35 ?l35 ?c35 ?k35 ?z0 ?z1 ?z2 ?z3 ?z4 ?z5 ?z6 ?z7 ?z8 ?z9 ?z10 ?z11 ?z12 ?y0 ?y1 ?y2 ?y3 ?y4 ?x4 ?y5 ?x5 ?hh5x0 ?hh5x1 ?hh5x2 ?hh5x3 ?ha5 ?y6 ?x6 ?y7 ?y8 ?y9 ?y10 ?cn0 ?cl0 ?ck0 ?cs0 ?cg0 ?ch0 ?cc0 ?cn1 ?cl1 ?ck1 ?cs1 ?cg1 ?ch1 ?cc1 ?cn2 ?cl2 ?ck2 ?cs2 ?cg2 ?ch2 ?cc2 ?cn3 ?cl3 ?ck3 ?cs3 ?cg3 ?ch3 ?cc3 ?cn4 ?cl4 ?ck4 ?cs4 ?cg4 ?ch4 ?cc4 ?cn5 ?cl5 ?ck5 ?cs5 ?cg5 ?ch5 ?cc5 ?cn6 ?cl6 ?ck6 ?cs6 ?cg6 ?ch6 ?cc6 ?cn7 ?cl7 ?ck7 ?cs7 ?cg7 ?ch7 ?cc7 ?cn8 ?cl8 ?ck8 ?cs8 ?cg8 ?ch8 ?cc8 ?cn9 ?cl9 ?ck9 ?cs9 ?cg9 ?ch9 ?cc9 ?cn10 ?cl10 ?ck10 ?cs10 ?cg10 ?ch10 ?cc10 ?cn11 ?cl11 ?ck11 ?cs11 ?cg11 ?ch11 ?cc11 ?crd ?cty ?cfi ?ndup ?ia0 ?il0 ?ic0 ?ik0 ?it0 ?iw0
  (case a0=>k_is)
  (case l0=>k_is)
  (case c0=>k_is)
  (case k0=>k_is)
  (case a1=>k_is)
  (case l1=>k_is)
  (case c1=>k_is)
  (case k1=>k_is)
  (case a2=>k_is)
  (case l2=>k_is)
  (case c2=>k_is)
  (case k2=>k_is)
  (case a3=>k_is)
  (case l3=>k_is)
  (case c3=>k_is)
  (case k3=>k_is)
  (case a4=>k_is)
  (case l4=>k_is)
  (case c4=>k_is)
  (case k4=>k_is)
  (case a5=>k_is)
  (case l5=>k_is)
  (case c5=>k_is)
  (case k5=>k_is)
  (case a6=>k_is)
  (case l6=>k_is)
  (case c6=>k_is)
  (case k6=>k_is)
  (case a7=>k_is)
  (case l7=>k_is)
  (case c7=>k_is)
  (case k7=>k_is)
  (case a8=>k_is)
  (case l8=>k_is)
  (case c8=>k_is)
  (case k8=>k_is)
  (case a9=>k_is)
  (case l9=>k_is)
  (case c9=>k_is)
  (case k9=>k_is)
  (case a10=>k_is)
  (case l10=>k_is)
  (case c10=>k_is)
  (case k10=>k_is)
  (case a11=>k_is)
  (case l11=>k_is)
  (case c11=>k_is)
  (case k11=>k_is)
  (case a12=>k_is)
  (case l12=>k_is)
  (case c12=>k_is)
  (case k12=>k_is)
  (case a13=>k_is)
  (case l13=>k_is)
  (case c13=>k_is)
  (case k13=>k_is)
  (case a14=>k_is)
  (case l14=>k_is)
  (case c14=>k_is)
  (case k14=>k_is)
  (case a15=>k_is)
  (case l15=>k_is)
  (case c15=>k_is)
  (case k15=>k_is)
  (case a16=>k_is)
  (case l16=>k_is)
  (case c16=>k_is)
  (case k16=>k_is)
  (case a17=>k_is)
  (case l17=>k_is)
  (case c17=>k_is)
  (case k17=>k_is)
  (case a18=>k_is)
  (case l18=>k_is)
  (case c18=>k_is)
  (case k18=>k_is)
  (case a19=>k_is)
  (case l19=>k_is)
  (case c19=>k_is)
  (case k19=>k_is)
  (case a20=>k_is)
  (case l20=>k_is)
  (case c20=>k_is)
  (case k20=>k_is)
  (case a21=>k_is)
  (case l21=>k_is)
  (case c21=>k_is)
  (case k21=>k_is)
  (case a22=>k_is)
  (case l22=>k_is)
  (case c22=>k_is)
  (case k22=>k_is)
  (case a23=>k_is)
  (case l23=>k_is)
  (case c23=>k_is)
  (case k23=>k_is)
  (case a24=>k_is)
  (case l24=>k_is)
  (case c24=>k_is)
  (case k24=>k_is)
  (case a25=>k_is)
  (case l25=>k_is)
  (case c25=>k_is)
  (case k25=>k_is)
  (case a26=>k_is)
  (case l26=>k_is)
  (case c26=>k_is)
  (case k26=>k_is)
  (case a27=>k_is)
  (case l27=>k_is)
  (case c27=>k_is)
  (case k27=>k_is)
  (case a28=>k_is)
  (case l28=>k_is)
  (case c28=>k_is)
  (case k28=>k_is)
  (case a29=>k_is)
  (case l29=>k_is)
  (case c29=>k_is)
  (case k29=>k_is)
  (case a30=>k_is)
  (case l30=>k_is)
  (case c30=>k_is)
  (case k30=>k_is)
  (case a31=>k_is)
  (case l31=>k_is)
  (case c31=>k_is)
  (case k31=>k_is)
  (case a32=>k_is)
  (case l32=>k_is)
  (case c32=>k_is)
  (case k32=>k_is)
  (case a33=>k_is)
  (case l33=>k_is)
  (case c33=>k_is)
  (case k33=>k_is)
  (case a34=>k_is)
  (case l34=>k_is)
  (case c34=>k_is)
  (case k34=>k_is)
  (case a35=>k_is)
  (case l35=>k_is)
  (case c35=>k_is)
  (case k35=>k_is)
  (case z0=>k_is)
  (case z1=>k_is)
  (case z2=>k_is)
  (case z3=>k_is)
  (case z4=>k_is)
  (case z5=>k_is)
  (case z6=>k_is)
  (case z7=>k_is)
  (case z8=>k_is)
  (case z9=>k_is)
  (case z10=>k_is)
  (case z11=>k_is)
  (case z12=>k_is)
  (case y0=>k_is)
  (case y1=>k_is)
  (case y2=>k_is)
  (case y3=>k_is)
  (case y4=>k_is)
  (case x4=>k_is)
  (case y5=>k_is)
  (case x5=>k_is)
  (case hh5x0=>first | rfl | k_is)
  (case hh5x1=>first | rfl | k_is)
  (case hh5x2=>first | rfl | k_is)
  (case hh5x3=>first | rfl | k_is)
  (case ha5=>first | rfl | decide | k_is)
  (case y6=>k_is)
  (case x6=>k_is)
  (case y7=>k_is)
  (case y8=>k_is)
  (case y9=>k_is)
  (case y10=>k_is)
  (case cn0=>k_is)
  (case cl0=>k_is)
  (case ck0=>k_is)
  (case cs0=>k_is)
  (case cg0=>k_is)
  (case ch0=>k_is)
  (case cc0=>k_is)
  (case cn1=>k_is)
  (case cl1=>k_is)
  (case ck1=>k_is)
  (case cs1=>k_is)
  (case cg1=>k_is)
  (case ch1=>k_is)
  (case cc1=>k_is)
  (case cn2=>k_is)
  (case cl2=>k_is)
  (case ck2=>k_is)
  (case cs2=>k_is)
  (case cg2=>k_is)
  (case ch2=>k_is)
  (case cc2=>k_is)
  (case cn3=>k_is)
  (case cl3=>k_is)
  (case ck3=>k_is)
  (case cs3=>k_is)
  (case cg3=>k_is)
  (case ch3=>k_is)
  (case cc3=>k_is)
  (case cn4=>k_is)
  (case cl4=>k_is)
  (case ck4=>k_is)
  (case cs4=>k_is)
  (case cg4=>k_is)
  (case ch4=>k_is)
  (case cc4=>k_is)
  (case cn5=>k_is)
  (case cl5=>k_is)
  (case ck5=>k_is)
  (case cs5=>k_is)
  (case cg5=>k_is)
  (case ch5=>k_is)
  (case cc5=>k_is)
  (case cn6=>k_is)
  (case cl6=>k_is)
  (case ck6=>k_is)
  (case cs6=>k_is)
  (case cg6=>k_is)
  (case ch6=>k_is)
  (case cc6=>k_is)
  (case cn7=>k_is)
  (case cl7=>k_is)
  (case ck7=>k_is)
  (case cs7=>k_is)
  (case cg7=>k_is)
  (case ch7=>k_is)
  (case cc7=>k_is)
  (case cn8=>k_is)
  (case cl8=>k_is)
  (case ck8=>k_is)
  (case cs8=>k_is)
  (case cg8=>k_is)
  (case ch8=>k_is)
  (case cc8=>k_is)
  (case cn9=>k_is)
  (case cl9=>k_is)
  (case ck9=>k_is)
  (case cs9=>k_is)
  (case cg9=>k_is)
  (case ch9=>k_is)
  (case cc9=>k_is)
  (case cn10=>k_is)
  (case cl10=>k_is)
  (case ck10=>k_is)
  (case cs10=>k_is)
  (case cg10=>k_is)
  (case ch10=>k_is)
  (case cc10=>k_is)
  (case cn11=>k_is)
  (case cl11=>k_is)
  (case ck11=>k_is)
  (case cs11=>k_is)
  (case cg11=>k_is)
  (case ch11=>k_is)
  (case cc11=>k_is)
  (case crd=>k_is)
  (case cty=>k_is)
  (case cfi=>k_is)
  (case ndup=>decide)
  (case ia0=>k_is)
  (case il0=>k_is)
  (case ic0=>k_is)
  (case ik0=>k_is)
  (case it0=>k_is)
  (case iw0=>k_is)
#print axioms PySem.Challenge.cw_pricecover_k32_bad_rows_holds
