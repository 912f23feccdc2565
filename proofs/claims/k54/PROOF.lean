import PyProof.Rows.All
import Wide.All
import OpenK.AllK
import Wide.FinOn
import Lean
import PyProof.EqAt
import PyProof.EqKinds
import PyProof.TupleCall
import KE.KSortTup
import PyProof.EnumMake
import PyProof.EnumStmt
import PyProof.ListRange
import PyProof.Rows.SortPure
import PyProof.Rows.SortRuns
import KE.KDictList
import KE.KRevIter
import PyProof.DictItems
import PyProof.ZipIter
import PyProof.DictUpdate
import PyProof.TupleIter
import PyProof.ListNew
import PyProof.Rows.ZipGen
import PyProof.AttrMiss
import PyProof.FactsAll.dict_1
import PyProof.AttrMissHeap
import KE.KDictOf
import PyProof.Rows.SetFrom
import PyProof.Rows.Range3
import PyProof.DictIter
import PyProof.Rows.TupDisplay
import PyProof.Draws
import PyProof.Rows.CallKwBuiltin
import PyProof.ExcClass3
import PyProof.RulesAs
import PyProof.RaisesMany
import PyProof.InstStore
import PyProof.InstStoreFacts
import PyProof.ExcBaseAll.ValueError
import PyProof.ExcArgs
import PyProof.InstLoad
import PyProof.ExcAttrAll.ValueError
import KE.KIsAll
import PyProof.Toks
import PyProof.FString4
import PyProof.StrLawsRepr
import PyProof.FitsReplace
import KE.KLam
import KE.KNestM
import KE.KSortKey
import PyProof.Rows.SortRev
import PySem.Challenge.RW_pricecover_k54_whole_all_ways_tried
set_option Elab.async false
set_option bootstrap.genMatcherCode false
set_option linter.all false
set_option maxRecDepth 100000
set_option maxHeartbeats 4000000
open List renaming getElem?_eq_getElem → aa0,length_map → aa1,length_append → aa2,size_toArray → aa5,map_append → aa6,not_mem_nil → aa8,mem_cons_self → aa9,getElem?_map → aaa,mem_cons_of_mem → aab,length_singleton → aac,getElem?_append_right → aad,getD_eq_getElem?_getD → aae,mem_of_getElem? → aaf,getElem?_append_left → aag,length_cons → aai,replicate → aak,mem_cons → aal,length_drop → aan,filter_cons → aap,range → aaq,mem_append_right → aau,length_take → aav,map_cons → aaw,drop_eq_getElem_cons → aax,length_reverse → aaz,append_nil → ab3,take_add_one → ab4,replicate_succ → ab5,getElem_mem → ab7,length_filter_le → ab8,getElem?_eq_none → ab9,mem_of_mem_take → aba,length_replicate → abb,filter_append → abd,take_of_length_le → abe,Nodup → abf,take_length → abj,length_filterMap_le → abm,contains_cons → abn,append_assoc → abo,count_append → abp,toArray → abt,mem_append_left → abv,find?_cons → abw,flatten_cons → abx,length_range → aby,filterMap_cons → abz,drop_length → ac1,drop_of_length_le → ac2,map_map → ac3,take_append_drop → ac5,map_drop → ac7,count_replicate_self → ac9,nodup_nil → aca,getElem?_take_of_lt → acb,length_nil → acf,reverse_cons → ach,count_replicate → acm,count_singleton → acn,sum_cons → aco,filter_sublist → acq,of_mem_zip → acr,mem_of_find?_eq_some → acs,headD_eq_head?_getD → acz,take_sublist → ad4,ext_getElem? → ad6,length → ad7,any_cons → ad9,getElem?_reverse → adb,filterMap_append → ade,map_nil → adf,length_dropLast → adg,forIn_cons → adi,sum_append → adj,drop_drop → adl,forIn_nil → adm,dropLast_concat_getLast → adn,getElem?_drop → adp,zip_cons_cons → adq,map_take → adu,mem_of_head? → adv,getElem_inj → adx,lookup_cons → ae1,nil_sublist → ae4,getElem?_replicate → ae5,getElem?_cons_succ → ae6,range_succ → ae9,length_zip → aea,getElem?_set_self → aec,drop_zero → aed,countP_mono_left → aee,getElem?_toArray → aef,getElem?_set_ne → aeg,map → aei,dropLast_concat → aej,mem_of_mem_drop → aek,getLast?_concat → ael,map_congr_left → aeo,getElem?_range → aep,flatMap_append → aeq,reverse_append → aer,cons_append → aew,countP_cons → aey,append_inj' → aez,zipIdx_cons → af0,all_eq_true → af2,foldl → af3,foldl_cons → af4,nil_append → af5,zipIdx_nil → af6,find?_some → af7
open Option.some renaming inj → aa3,injEq → adw
open Nat renaming le_refl → aa4,zero_le → aa7,lt_of_succ_lt → aah,lt_of_lt_of_le → aam,ne_of_lt → aao,le_trans → aar,le_add_right → aay,ne_of_gt → abc,lt_irrefl → abg,eq_zero_or_pos → abl,le_of_lt → abu,sub_zero → ace,lt_succ_of_lt → acj,zero_add → ack,add_lt_add_left → acp,lt_of_le_of_lt → acu,add_sub_cancel → acw,sub_self → acx,lt_or_ge → ad0,mul_le_mul → ad2,le_succ_of_le → ad5,le_succ → ad8,add_assoc → adt,add_comm → adz,lt_trans → ae0,min_self → ae2,min_eq_left → ae8,not_lt_zero → aeb,mul_le_mul_right → aeh,lt_trichotomy → aet,le_of_not_lt → aev,lt_succ_self → af1
open Bool renaming false_ne_true → aaj,false_eq_true → ab6,eq_iff_iff → ac4,and_eq_true → acd,and_false → adk,or_false → ads,or_true → ae3,or_eq_true → ae7,and_true → aen,noConfusion → aex
open Int renaming emod_nonneg → aas,toNat → ab0,le_refl → abr,toNat_natCast → ac8,emod_lt_of_pos → acg
open And renaming intro → aat
open Or renaming inl → ab1,inr → ab2
open List.cons renaming inj → abh,injEq → ac6
open Iff renaming rfl → abi
open Array renaming getElem?_eq_getElem → abk,getD_eq_getD_getElem? → abq,length_toList → ac0,forIn_toList → acy,getElem?_toList → ada,toArray_toList → aem,toList_push → aeu
open Option renaming isSome_map → aci,isSome_some → acv,map_some → adh,isSome_none → ado,getD_none → ady
open Exists renaming intro → ad1
open List.Perm renaming refl → ad3
open List.Pairwise renaming nil → aes
local macro_rules | `(tactic| omega)=>`(tactic| first | lia | omega +splitNatSub)
namespace L2
open PySem PySem.Spec PyProof.Rows
abbrev Key:=Sum Int Str
noncomputable def wk:Key→Value→Bool
 | .inl k,v=>Value.isInt k v
 | .inr x,v=>Value.isStrOf x v
noncomputable def keyH (w:World):Key→Int
 | .inl k=>hashInt k
 | .inr x=>hashStr w x
theorem cq:∀{k:Key} {v:Value},wk k v=true→(∃i t,k=Sum.inl i∧v=Value.int i t)∨(∃x t,k=Sum.inr x∧v=Value.str x t)
 | .inl i,v,h=>by
  obtain ⟨t,e⟩:=Value.isInt_shape (k:=i) (v:=v) h;exact .inl ⟨i,t,rfl,e⟩
 | .inr x,v,h=>by
  obtain ⟨t,e⟩:=Value.isStrOf_shape (x:=x) (v:=v) h;exact .inr ⟨x,t,rfl,e⟩
theorem Ip (i:Int) (t:Tok):wk (.inl i) (.int i t)=true:=by simp[wk,Value.isInt]
theorem Hd (x:Str) (t:Tok):wk (.inr x) (.str x t)=true:=by simp[wk,Value.isStrOf]
theorem key_ll (a b:Int):decide ((Sum.inl a:Key)=Sum.inl b)=(a==b):=by
 by_cases e:a=b
 ·subst e;simp
 ·have h:¬(Sum.inl a:Key)=Sum.inl b:=λq=>e (Sum.inl.inj q);rw[decide_eq_false h];exact (beq_eq_false_iff_ne.mpr e).symm
theorem key_rr (a b:Str):decide ((Sum.inr a:Key)=Sum.inr b)=decide (a=b):=by
 by_cases e:a=b
 ·subst e;simp
 ·have h:¬(Sum.inr a:Key)=Sum.inr b:=λq=>e (Sum.inr.inj q);rw[decide_eq_false h,decide_eq_false e]
theorem key_lr (a:Int) (b:Str):decide ((Sum.inl a:Key)=Sum.inr b)=false:=decide_eq_false (λq=>nomatch q)
theorem key_rl (a:Str) (b:Int):decide ((Sum.inr a:Key)=Sum.inl b)=false:=decide_eq_false (λq=>nomatch q)
noncomputable def ay (prog:Program) (w:World):PySem.KeyKind prog w Key where
 is:=wk
 hash:=keyH w
 inj:=λv a b ha hb=>by
  rcases cq ha with ⟨i,t,rfl,rfl⟩ | ⟨x,t,rfl,rfl⟩
  ·rcases cq hb with ⟨j,u,rfl,e⟩ | ⟨y,u,rfl,e⟩
   ·injection e with e1 _;rw[e1]
   ·exact nomatch e
  ·rcases cq hb with ⟨j,u,rfl,e⟩ | ⟨y,u,rfl,e⟩
   ·exact nomatch e
   ·injection e with e1 _;rw[e1]
 byValue:=λk v h=>by
  rcases cq h with ⟨i,t,rfl,rfl⟩ | ⟨x,t,rfl,rfl⟩ <;> rfl
 pyHash:=λhv h=>by
  rcases cq hv with ⟨i,t,rfl,rfl⟩ | ⟨x,t,rfl,rfl⟩
  ·exact wpAny_pyHash_int h
  ·exact wpAny_pyHash_str h
 eqBool:=λhu hv h=>by
  rcases cq hu with ⟨i,t,rfl,rfl⟩ | ⟨x,t,rfl,rfl⟩
  ·rcases cq hv with ⟨j,u,rfl,rfl⟩ | ⟨y,u,rfl,rfl⟩
   ·rw[key_ll] at h;exact wpAny_eqBool_int h
   ·rw[key_lr] at h;exact SeqAt.EqAt.int_str i t y u _ _ _ _ h
  ·rcases cq hv with ⟨j,u,rfl,rfl⟩ | ⟨y,u,rfl,rfl⟩
   ·rw[key_rl] at h;exact SeqAt.EqAt.str_int x t j u _ _ _ _ h
   ·rw[key_rr] at h;exact wpAny_eqBool_str h
 «strs»:=λk x t v h=>by
  rcases cq h with ⟨i,u,rfl,e⟩ | ⟨y,u,rfl,e⟩
  ·exact nomatch e
  ·injection e with e1 _
   subst e1;cases v <;> rfl
theorem Bp (prog:Program) (w:World) (i:Int) (t:Tok):(ay prog w).is (.inl i) (.int i t)=true:=Ip i t
theorem kg (prog:Program) (w:World) (x:Str) (t:Tok):(ay prog w).is (.inr x) (.str x t)=true:=Hd x t
inductive V where
 | non | bl (b:Bool) | int (i:Int) | str (x:Str) | byt (b:Array UInt8) | flt (b:UInt64) | ref (a:Addr) | ty (n:String)
 deriving DecidableEq
def RelV:V→Value→Prop
 | .non,u=>u=Value.none
 | .bl b,u=>u=Value.bool b
 | .int i,u=>∃t,u=Value.int i t
 | .str x,u=>∃t,u=Value.str x t
 | .byt b,u=>∃t,u=Value.bytes b t
 | .flt b,u=>∃t,u=Value.float b t
 | .ref a,u=>u=Value.ref a
 | .ty n,u=>u=Value.type n
abbrev Vals:List V→List Value→Prop:=Paired RelV
theorem Vals.length {xs:List V} {us:List Value} (r:Vals xs us):xs.length=us.length:=Paired.length r
theorem Vals.get:∀{xs:List V} {us:List Value} {i:Nat} {x:V},Vals xs us→xs[i]?=some x→∃u,us[i]?=some u∧RelV x u
 | _,_,_,_,.nil,e=>by simp at e
 | _,_,0,_,.cons r _,e=>by simp at e;subst e;exact ⟨_,rfl,r⟩
 | _,_,i+1,x,.cons _ t,e=>by
  obtain ⟨u,h1,h2⟩:=Vals.get (i:=i) (x:=x) t (by simpa using e);exact ⟨u,by simpa using h1,h2⟩
theorem Vals.set {x:V} {u:Value} (r:RelV x u):∀{xs:List V} {us:List Value} (i:Nat),Vals xs us→Vals (xs.set i x) (us.set i u)
 | _,_,_,.nil=>.nil
 | _,_,0,.cons _ t=>.cons r t
 | _,_,i+1,.cons q t=>.cons q (Vals.set r i t)
theorem Vals.append:∀{xs ys:List V} {us ws:List Value},Vals xs us→Vals ys ws→Vals (xs++ys) (us++ws)
 | _,_,_,_,.nil,s=>s
 | _,_,_,_,.cons r t,s=>.cons r (Vals.append t s)
theorem Vals.take:∀{xs:List V} {us:List Value} (n:Nat),Vals xs us→Vals (xs.take n) (us.take n)
 | _,_,0,_=>.nil
 | _,_,_+1,.nil=>.nil
 | _,_,n+1,.cons r t=>.cons r (Vals.take n t)
theorem Vals.drop:∀{xs:List V} {us:List Value} (n:Nat),Vals xs us→Vals (xs.drop n) (us.drop n)
 | _,_,0,r=>r
 | _,_,_+1,.nil=>.nil
 | _,_,n+1,.cons _ t=>Vals.drop n t
def mh:Option V→Option Value→Prop
 | some v,some u=>RelV v u
 | none,none=>True
 | _,_=>False
def KV {κ:Type}:List (κ×V)→List (κ×Value)→Prop:=Paired λ(p:κ×V) (q:κ×Value)=>p.1=q.1∧RelV p.2 q.2
noncomputable def kV:Key→V
 | .inl i=>.int i
 | .inr x=>.str x
inductive HO where
  | lst (xs:List V)
  | tup (xs:List V)
  | dK (kvs:List (Key×V)) | dT (kvs:List (List Key×V))
  | set (S:Int→Bool) (n:Nat)
  | ins (C dx:Addr) (fs:List (Str×V))
  | own (x:Addr)
  | xd (fs:List (Str×V))
  | met (f x:Addr)
  | rng (lo hi:Int)
  | frz (o:Obj) (u:HO)
  | tbl (ps:Array Value)
  | ext (φ:Heap→Prop)
abbrev Hp:=Addr→Option HO
noncomputable def upd (H:Hp) (a:Addr) (o:HO):Hp:=λb=>if b=a then some o else H b
theorem ae {H:Hp} {a:Addr} {o:HO}:upd H a o a=some o:=by unfold upd;rw[if_pos rfl]
theorem ag {H:Hp} {a b:Addr} {o:HO} (h:b≠a):upd H a o b=H b:=by unfold upd;rw[if_neg h]
theorem gx {H:Hp} {a b:Addr} {o u:HO} (h:H a=some o) (h':H b=some u) (d:o≠u):a≠b:=by
 intro e;subst e;rw[h] at h';exact d (aa3 h')
theorem af {H:Hp} {a b:Addr} {o:HO} (h:H a=some o) (h':H b=none):a≠b:=by
 intro e;subst e;rw[h] at h';cases h'
section
variable (P:Program) (w:World)
def Ee (h:Heap) (a:Addr) (its:Array Value):Prop:=∃o,h.get? a=some o∧o.cls=.type "tuple"∧∃n,o.data=.seq its n∧o.dict=none
theorem Ee.tup {h:Heap} {a:Addr} {its:Array Value} (x:Ee h a its):IsTup h a its:=let ⟨o,h1,h2,n,h3,_⟩:=x;⟨o,h1,h2,n,h3⟩
def b7 (H:Hp) (h:Heap) (a:Addr):HO→Prop
 | .lst xs=>xs.length≤sizeLine∧∃(its:List Value) (n:Nat),Vals xs its∧h.get? a=some { cls:=.type "list",data:=.seq its.toArray n }
 | .tup xs=>xs.length≤sizeLine∧∃its:List Value,Vals xs its∧Ee h a its.toArray
 | .dK kvs=>kvs.length≤sizeLine∧(a==sysModules)=false∧∃vs,KV kvs vs∧h.DictOf (ay P w) a vs
 | .dT kvs=>kvs.length≤sizeLine∧(a==sysModules)=false∧∃xs:List (List Key×Addr×Value),
   Paired (λ(p:List Key×V) (q:List Key×Addr×Value)=>p.1=q.1∧H q.2.1=some (.tup (p.1.map kV))∧RelV p.2 q.2.2) kvs xs∧
   ∃o es ep,h.get? a=some o∧o.ExactDict∧o.data=.dict es ep∧es.toList=xs.map (entryOfKey (tupleKind (ay P w)))∧(xs.map (·.1)).Nodup
 | .set S n=>h.SetOf (intKind P w) a S n
 | .ins C dx fs=>H dx=some (.own a)∧fs.length≤1000∧dx≠a∧h.get? a=some (PySem.W.instObj C dx)∧
   ∃mA,h.Ns1 dx mA∧(∀f,mh (fs.lookup f) (mA f))∧PySem.Within mA (fs.map (·.1))
 | .own _=>∃o,h.get? a=some o
 | .xd fs=>∃mA,h.Ns1 a mA∧∀f,mh (fs.lookup f) (mA f)
 | .rng lo hi=>∃t u v,h.get? a=some { cls:=.type "range",data:=.fields #[.int lo t,.int hi u,.int 1 v] }
 | .frz o u=>h.get? a=some o∧b7 H h a u
 | .tbl ps=>h.get? a=some { cls:=.none,data:=.fields ps }
 | .met f x=>h.get? a=some (PySem.W.methodObj (.ref f) (.ref x))
 | .ext φ=>φ h∧(∃o,h.get? a=some o)∧∀h1 h2:Heap,φ h1→(∀o,h1.get? a=some o→h2.get? a=some o)→φ h2
def HOk (H:Hp) (h:Heap):Prop:=∀a o,H a=some o→b7 P w H h a o
end
section
variable {P:Program} {w:World} {H H':Hp} {h h':Heap} {a:Addr} {o:HO}
theorem b7.lt (x:b7 P w H h a o):a < h.objs.size:=by
 cases o with
 | lst xs=>obtain ⟨_,_,_,_,e⟩:=x;exact Heap.lt_size e
 | tup xs=>obtain ⟨_,_,_,p⟩:=x;exact p.tup.lt
 | dK kvs=>obtain ⟨_,_,_,_,o,_,_,e,_⟩:=x;exact Heap.lt_size e
 | dT kvs=>obtain ⟨_,_,_,_,o,_,_,e,_⟩:=x;exact Heap.lt_size e
 | set S n=>obtain ⟨o,_,_,_,e,_⟩:=x;exact Heap.lt_size e
 | ins C dx fs=>obtain ⟨_,_,_,e,_⟩:=x;exact Heap.lt_size e
 | own y=>obtain ⟨_,e⟩:=x;exact Heap.lt_size e
 | xd fs=>obtain ⟨_,⟨_,_,_,e,_⟩,_⟩:=x;exact Heap.lt_size e
 | rng lo hi=>obtain ⟨_,_,_,e⟩:=x;exact Heap.lt_size e
 | frz ob u=>obtain ⟨e,_⟩:=x;exact Heap.lt_size e
 | tbl ps=>exact Heap.lt_size (show h.get? a=some _ from x)
 | met f y=>exact Heap.lt_size (show h.get? a=some _ from x)
 | ext φ=>obtain ⟨_,⟨_,e⟩,_⟩:=x;exact Heap.lt_size e
theorem Paired.mapP {α β:Type} {F G:α→β→Prop}:∀{l₁:List α} {l₂:List β},Paired F l₁ l₂→(∀a b,F a b→G a b)→Paired G l₁ l₂
 | _,_,.nil,_=>.nil
 | _,_,.cons r t,f=>.cons (f _ _ r) (Paired.mapP t f)
theorem b7.Bi (x:b7 P w H h a o) (k:∀b u,(b=a∨H b=some (.own a))→h.get? b=some u→h'.get? b=some u)
  (ho:∀b,H b=some (.own a)→H' b=some (.own a)) (ht:∀b xs,H b=some (.tup xs)→H' b=some (.tup xs)):b7 P w H' h' a o:=by
 induction o with
 | lst xs=>obtain ⟨z,its,n,r,e⟩:=x;exact ⟨z,its,n,r,k _ _ (.inl rfl) e⟩
 | tup xs=>obtain ⟨z,its,r,ob,e,c⟩:=x;exact ⟨z,its,r,ob,k _ _ (.inl rfl) e,c⟩
 | dK kvs=>obtain ⟨z,y,vs,r,ob,es,ep,e,c⟩:=x;exact ⟨z,y,vs,r,ob,es,ep,k _ _ (.inl rfl) e,c⟩
 | dT kvs=>
  obtain ⟨z,y,xs,r,ob,es,ep,e,c⟩:=x;exact ⟨z,y,xs,Paired.mapP r λp q z=>⟨z.1,ht _ _ z.2.1,z.2.2⟩,ob,es,ep,k _ _ (.inl rfl) e,c⟩
 | set S n=>obtain ⟨ob,es,ep,t,e,c⟩:=x;exact ⟨ob,es,ep,t,k _ _ (.inl rfl) e,c⟩
 | ins C dx fs=>
  obtain ⟨d,z,ne,e,mA,⟨od,es,ep,e2,c⟩,r⟩:=x;exact ⟨ho _ d,z,ne,k _ _ (.inl rfl) e,mA,⟨od,es,ep,k _ _ (.inr d) e2,c⟩,r⟩
 | own y=>obtain ⟨ob,e⟩:=x;exact ⟨ob,k _ _ (.inl rfl) e⟩
 | xd fs=>obtain ⟨mA,⟨od,es,ep,e,c⟩,r⟩:=x;exact ⟨mA,⟨od,es,ep,k _ _ (.inl rfl) e,c⟩,r⟩
 | rng lo hi=>obtain ⟨t,u,v,e⟩:=x;exact ⟨t,u,v,k _ _ (.inl rfl) e⟩
 | frz ob u ih=>obtain ⟨e,q⟩:=x;exact ⟨k _ _ (.inl rfl) e,ih q⟩
 | tbl ps=>
  have e:h.get? a=some { cls:=.none,data:=.fields ps }:=x;show h'.get? a=some { cls:=.none,data:=.fields ps }
  exact k a _ (.inl rfl) e
 | met f y=>
  have e:h.get? a=some (PySem.W.methodObj (.ref f) (.ref y)):=x;show h'.get? a=some (PySem.W.methodObj (.ref f) (.ref y))
  exact k a _ (.inl rfl) e
 | ext φ=>obtain ⟨p,⟨o,e⟩,st⟩:=x;exact ⟨st _ _ p λo q=>k _ _ (.inl rfl) q,⟨o,k _ _ (.inl rfl) e⟩,st⟩
theorem HOk.lt (x:HOk P w H h) (e:H a=some o):a < h.objs.size:=(x a o e).lt
theorem y9 {xs:List V} (x:HOk P w H h) (e:H a=some (.tup xs)):xs.length≤sizeLine∧∃its:List Value,Vals xs its∧IsTup h a its.toArray:=
 let ⟨z,its,r,p⟩:=x a _ e
 ⟨z,its,r,p.tup⟩
theorem HOk.fresh (x:HOk P w H h) (e:h.objs.size≤a):H a=none:=by
 cases q:H a with
 | none=>rfl
 | some u=>exact absurd (aam (x.lt q) e) (abg _)
theorem HOk.kept (x:HOk P w H h) (k:∀b u,h.get? b=some u→h'.get? b=some u):HOk P w H h':=λa o e=>
 (x a o e).Bi (λb u _ q=>k b u q) (λ_ q=>q) λ_ _ q=>q
theorem HOk.laid (x:HOk P w H h) (k:∀b u,h.get? b=some u→h'.get? b=some u) (hp:h.objs.size≤a) (new:b7 P w (upd H a o) h' a o):HOk P w (upd H a o) h':=λb u e=>by
 have hn:=x.fresh hp;by_cases hb:b=a
 ·subst hb;rw[ae] at e;cases e;exact new
 ·rw[ag hb] at e;exact (x b u e).Bi (λc v _ q=>k c v q) (λc q=>by rw[ag (af q hn)];exact q) λc xs q=>by rw[ag (af q hn)];exact q
end
def Rd (H:Hp) (a:Addr) (u:HO):Prop:=H a=some u∨∃o,H a=some (.frz o u)
theorem Rd.ok {P:Program} {w:World} {H:Hp} {h:Heap} {a:Addr} {u:HO} (r:Rd H a u) (x:HOk P w H h):b7 P w H h a u:=by
 rcases r with r | ⟨o,r⟩
 ·exact x a u r
 ·obtain ⟨_,q⟩:=x a _ r;exact q
def Mut:Option HO→Prop
 | some (.lst _)=>True
 | some (.dK _)=>True
 | some (.dT _)=>True
 | some (.set _ _)=>True
 | some (.ins _ _ _)=>True
 | some (.ext _)=>True
 | _=>False
section
variable {P:Program} {w:World} {H:Hp} {h h':Heap} {x e:Addr} {o':HO}
theorem HOk.write (ok:HOk P w H h) (mu:Mut (H x)) (he:e=x∨H e=some (.own x)) (k:∀b u,b≠e→h.get? b=some u→h'.get? b=some u) (heo:∃u,h'.get? e=some u)
  (new:b7 P w (upd H x o') h' x o'):HOk P w (upd H x o') h':=λb u q=>by
 have nown:∀c y,H c=some (.own y)→c≠x:=λc y r z=>by subst z;rw[r] at mu;exact mu
 have ntup:∀c xs,H c=some (.tup xs)→c≠x:=λc xs r z=>by subst z;rw[r] at mu;exact mu
 by_cases hb:b=x
 ·subst hb;rw[ae] at q;cases q;exact new
 ·rw[ag hb] at q;by_cases hbe:b=e
  ·have q':H b=some (.own x):=by
    rcases he with z | z
    ·exact absurd (hbe.trans z) hb
    ·rw[hbe];exact z
   rw[q] at q';cases q';obtain ⟨v,hv⟩:=heo;exact ⟨v,by rw[hbe];exact hv⟩
  ·refine (ok b u q).Bi (λc v hc r=>k c v ?_ r) (λc r=>by rw[ag (nown c b r)];exact r) λc xs r=>by rw[ag (ntup c xs r)];exact r
   rcases hc with rfl | hc
   ·exact hbe
   ·rintro rfl;rcases he with z | z
    ·exact nown c b hc z
    ·rw[hc] at z;cases z;exact hb rfl
end
structure Un (fs ex:List Addr) (H H':Hp) (h h':Heap):Prop where
 keep:∀b o,h.get? b=some o→H b=none→b∉fs→b∉ex→h'.get? b=some o
 slot:∀b o,h.get? b=some o→H b=none→b∈fs→b∉ex→∃sl,h'.get? b=some { o with slots:=sl }
 free:∀b o,h.get? b=some o→H b=none→b∉ex→H' b=none
 there:∀b o,h.get? b=some o→b∉ex→∃o',h'.get? b=some o'
 tups:∀b xs,H b=some (.tup xs)→H' b=some (.tup xs)
 frzs:∀b o u,H b=some (.frz o u)→H' b=some (.frz o u)
 tbls:∀b ps,H b=some (.tbl ps)→∃more,H' b=some (.tbl (ps++more))
section
variable {fs fs' ex ex':List Addr} {H H1 H2:Hp} {h h1 h2 h':Heap} {a x e:Addr} {o:HO}
theorem Un.any (u:Un fs ex H H1 h h1) {b:Addr} {ob:Obj} (q:h.get? b=some ob) (n:H b=none) (hx:b∉ex):∃sl,h1.get? b=some { ob with slots:=sl }:=by
 by_cases hb:b∈fs
 ·exact u.slot b ob q n hb hx
 ·exact ⟨ob.slots,u.keep b ob q n hb hx⟩
theorem Un.kept (k:∀b u,h.get? b=some u→h'.get? b=some u):Un fs ex H H h h':=
 ⟨λb ob q _ _ _=>k b ob q,λb ob q _ _ _=>⟨ob.slots,k b ob q⟩,λ_ _ _ n _=>n,λb ob q _=>⟨ob,k b ob q⟩,λ_ _ q=>q,λ_ _ _ q=>q,λ_ ps q=>⟨#[],by rw[q];simp⟩⟩
theorem Un.refl:Un fs ex H H h h:=Un.kept λ_ _ q=>q
theorem Un.laid (k:∀b u,h.get? b=some u→h'.get? b=some u) (hp:h.objs.size≤a) (hn:H a=none):Un fs ex H (upd H a o) h h' where
 keep:=λb u q _ _ _=>k b u q
 slot:=λb u q _ _ _=>⟨u.slots,k b u q⟩
 free:=λb u q n _=>by rw[ag (aao (aam (Heap.lt_size q) hp))];exact n
 there:=λb u q _=>⟨u,k b u q⟩
 tups:=λb xs q=>by rw[ag (af q hn)];exact q
 frzs:=λb u xs q=>by rw[ag (af q hn)];exact q
 tbls:=λb ps q=>⟨#[],by rw[ag (af q hn),q];simp⟩
theorem Un.write (mu:Mut (H x)) (he:e=x∨H e=some (.own x)) (k:∀b u,b≠e→h.get? b=some u→h'.get? b=some u) (heo:∃u,h'.get? e=some u):Un fs ex H (upd H x o) h h':=by
 have hx:∀b,H b=none→b≠x:=λb n z=>by subst z;rw[n] at mu;exact mu
 have hb:∀b,H b=none→b≠e:=λb n z=>by
  subst z;rcases he with r | r
  ·exact hx b n r
  ·rw[n] at r;cases r
 have hm:∀b u,H b=some u→¬Mut (some u)→b≠x:=λb u q nm z=>by subst z;rw[q] at mu;exact nm mu
 refine ⟨λb u q n _ _=>k b u (hb b n) q,λb u q n _ _=>⟨u.slots,k b u (hb b n) q⟩,λb u q n _=>by rw[ag (hx b n)];exact n,λb u q _=>?_,
  λb xs q=>by rw[ag (hm b _ q λz=>z)];exact q,λb u xs q=>by rw[ag (hm b _ q λz=>z)];exact q,λb ps q=>⟨#[],by rw[ag (hm b _ q λz=>z),q];simp⟩⟩
 by_cases hbe:b=e
 ·subst hbe;exact heo
 ·exact ⟨u,k b u hbe q⟩
end
noncomputable def trk (h:Heap) (H:Hp):List Addr:=(aaq h.objs.size).filter λa=>(H a).isSome
noncomputable def Ac (h:Heap) (H:Hp):Heap:=PySem.W.hideAll h (trk h H)
theorem Ho (h:Heap) (H:Hp):(Ac h H).objs.size=h.objs.size:=PySem.W.hideAll_size _ _
theorem Mn {h:Heap} {H:Hp} {b:Addr} {o:Obj} (e:h.get? b=some o) (n:H b=none):(Ac h H).get? b=some o:=
 PySem.W.hideAll_get _ e λhm=>by
  have q:(H b).isSome=true:=(List.mem_filter.mp hm).2;rw[n] at q;simp at q
theorem Nt {h:Heap} {H:Hp} {b:Addr} {o:Obj} (e:(Ac h H).get? b=some o):h.get? b=some o∧H b=none:=by
 have e':h.get? b=some o:=PySem.W.of_hideAll (trk h H) e;refine ⟨e',?_⟩;cases q:H b with
 | none=>rfl
 | some x=>
  have hm:b∈trk h H:=List.mem_filter.mpr ⟨List.mem_range.mpr (Heap.lt_size e'),by simp[q]⟩;have z:(Ac h H).get? b=none:=PySem.W.hideAll_none (trk h H) hm;rw[z] at e;cases e
noncomputable def Nw (g h:Heap) (L:Addr):List (Addr×Obj):=(aaq h.objs.size).filterMap λa=>if a=L∨(g.get? a).isSome=true then none else (h.get? a).map λo=>(a,o)
noncomputable def rest (g h:Heap) (L d:Addr):List (Addr×Obj):=(Nw g h L).filter λp=>decide (p.1≠d)
structure Mod (K:PySem.W.Frag) (mg:Str→Option Value) (base:Heap):Prop where
 kin:K.In base
 glob:base.Ns mainGlobals mg
 blt:∃mb,base.Ns builtinsNs mb∧∀x:Str,x≠"__name__"→mb x=bootBuiltins x
 nolimit:base.NoLimit
structure Cx where
 prog:Program
 w:World
 K:PySem.W.Frag
 mg:Str→Option Value
 base:Heap
 A:Around
 N:List Str
 s₀:Shared
 H₀:Hp
 env:Env
 outer:List Env
 stack:List Env
 ex:List Addr
 fn:Str→Bool
 calm:Bool
 pn:List (Addr×Obj)
 xe:Value→Shared→Prop
noncomputable def frs (l:List Env):List Addr:=l.filterMap (·.frame)
noncomputable abbrev Cx.fs (X:Cx):List Addr:=frs X.outer
def Vis (sc:Scope) (x:Str):Prop:=sc.names.lookup x=some .local∨sc.names.lookup x=some .cell∨sc.names.lookup x=some .free
def Loc (sc:Scope) (x:Str):Prop:=sc.names.lookup x=some .local∨sc.names.lookup x=some .cell
def Look (env:Env) (h:Heap) (m:Str→Option Value) (x:Str) (u:Value):Prop:=
 (env.kindOf x=some .local∧m x=some u)∨((env.kindOf x=some .cell∨env.kindOf x=some .free)∧∃c,env.cells.lookup x=some c∧h.IsCell c (some u))
structure Cx.Ok (X:Cx):Prop where
 mod:Mod X.K X.mg X.base
 kind:X.env.scope.kind=.function
 glob:X.env.globals=mainGlobals
 blt:X.env.builtins=builtinsNs
 above:X.s₀.heap.objs.size≤X.env.locals
 inj:∀x y c,X.env.cells.lookup x=some c→X.env.cells.lookup y=some c→x=y
 has:∀x,(X.env.kindOf x=some .cell∨X.env.kindOf x=some .free)→∃c,X.env.cells.lookup x=some c
 cab:∀x c,X.fn x=true→X.env.cells.lookup x=some c→X.s₀.heap.objs.size≤c
 hd:X.calm=true→X.A.handled=none
 frames:X.A.frames=some X.stack
 stk:X.stack=X.outer∨(X.stack=X.env::X.outer∧X.env.frame=some X.env.locals)
 exf:∀b∈X.ex,b≠X.env.locals∧∀x c,X.env.cells.lookup x=some c→c≠b
 bs:∀b o,X.base.get? b=some o→X.s₀.heap.get? b=some o∧X.H₀ b=none
 bsz:X.base.objs.size≤X.s₀.heap.objs.size
 noex:∀b o,X.base.get? b=some o→b∉X.ex
 exfs:∀b∈X.ex,b∉X.fs
 o8:X.s₀.heap.FunFrames X.base X.outer
 frf:∀b∈X.fs,X.H₀ b=none
structure Inv (X:Cx) (pins:List (Addr×Obj)) (σ:List (Option V)) (H:Hp) (s:Shared):Prop where
 ok:X.Ok
 os:s.os=X.s₀.os
 bare:AllBare s.gens
 base:Un X.fs X.ex X.H₀ H X.s₀.heap s.heap
 loc:∃m,s.heap.Ns X.env.locals m∧∀(i:Nat) (x:Str) (v:V),X.N[i]?=some x→σ[i]?=some (some v)→Vis X.env.scope x→∃u,RelV v u∧Look X.env s.heap m x u
 cell:∀x c,X.env.cells.lookup x=some c→∃v,s.heap.IsCell c v
 free:H X.env.locals=none
 freeC:∀x c,X.env.cells.lookup x=some c→H c=none
 pin:∀p∈X.pn++pins,s.heap.get? p.1=some p.2∧H p.1=none∧p.1≠X.env.locals∧p.1∉X.fs∧∀v,p.2.data≠.cell v
 hok:HOk X.prog X.w H s.heap
 len:σ.length=X.N.length
section
variable {X:Cx} {pins:List (Addr×Obj)} {σ:List (Option V)} {H H':Hp} {s:Shared} {h':Heap}
theorem Cx.Ok.nofr (ok:X.Ok) {b:Addr} {o:Obj} (e:X.base.get? b=some o):b∉X.fs:=λhb=>by
 have:=(ok.o8.mem hb).1;rw[e] at this;cases this
theorem Inv.bs (I:Inv X pins σ H s):∀b o,X.base.get? b=some o→s.heap.get? b=some o∧H b=none:=λb o e=>
 ⟨I.base.keep b o (I.ok.bs b o e).1 (I.ok.bs b o e).2 (I.ok.nofr e) (I.ok.noex b o e),I.base.free b o (I.ok.bs b o e).1 (I.ok.bs b o e).2 (I.ok.noex b o e)⟩
theorem Inv.bk (I:Inv X pins σ H s):∀b o,X.base.get? b=some o→s.heap.get? b=some o:=λb o e=>(I.bs b o e).1
theorem Inv.mod (I:Inv X pins σ H s):Mod X.K X.mg X.base:=I.ok.mod
theorem Inv.kIn (I:Inv X pins σ H s):X.K.In s.heap:=I.ok.mod.kin.keeps I.bk
theorem Inv.lt (I:Inv X pins σ H s):X.env.locals < s.heap.objs.size:=let ⟨_,hn,_⟩:=I.loc;hn.lt
theorem Inv.sz (I:Inv X pins σ H s):X.s₀.heap.objs.size≤s.heap.objs.size:=aar I.ok.above (abu I.lt)
theorem Inv.nofs (I:Inv X pins σ H s) {a:Addr} (h:s.heap.objs.size≤a):a∉X.fs:=λhb=>by
 obtain ⟨_,o,ho,_⟩:=I.ok.o8.mem hb;exact absurd (aam (Heap.lt_size ho) (aar I.sz h)) (abg _)
theorem Inv.cne (I:Inv X pins σ H s):∀x c,X.env.cells.lookup x=some c→c≠X.env.locals:=λx c e z=>by
 obtain ⟨v,o,ho,hd⟩:=I.cell x c e;obtain ⟨m,⟨o',es,ep,ho',hd',_⟩,_⟩:=I.loc;rw[z,ho'] at ho;cases ho;rw[hd'] at hd;cases hd
theorem Inv.o8 (I:Inv X pins σ H s):s.heap.FunFrames X.base X.outer:=by
 have all:∀(l:List Env),(∀b∈frs l,b∈X.fs)→X.s₀.heap.FunFrames X.base l→s.heap.FunFrames X.base l:=by
  intro l;induction l with
  | nil=>intro _ _;trivial
  | cons env r ih=>
   intro hs hl;obtain ⟨hk,⟨L,o,hf,hn,ho,hd⟩,hr⟩:=hl;have hL:L∈X.fs:=hs L (by unfold frs;rw[abz,hf];exact aa9);obtain ⟨sl,e⟩:=I.base.slot L o ho (I.ok.frf L hL) hL λz=>I.ok.exfs L z hL;exact ⟨hk,⟨L,_,hf,hn,e,hd⟩,ih (λb hb=>hs b (by unfold frs;rw[abz,hf];exact aab _ hb)) hr⟩
 exact all X.outer (λ_ hb=>hb) I.ok.o8
theorem Inv.stack (I:Inv X pins σ H s):s.heap.FunFrames X.base X.stack:=by
 rcases I.ok.stk with e | ⟨e,hf⟩
 ·rw[e];exact I.o8
 ·rw[e];obtain ⟨m,hn,_⟩:=I.loc;refine .cons (by rw[I.ok.kind];decide) hf hn ?_ I.o8;exact Heap.get?_none_of_le (aar I.ok.bsz I.ok.above)
theorem Inv.Ei (I:Inv X pins σ H s):∀b∈frs X.stack,b∈X.env.locals::X.fs:=λb hb=>by
 rcases I.ok.stk with e | ⟨e,hf⟩
 ·rw[e] at hb;exact aab _ hb
 ·rw[e] at hb;unfold frs at hb;rw[abz,hf] at hb;exact hb
theorem Inv.zq (I:Inv X pins σ H s):∀b∈frs X.stack,H b=none:=λb hb=>by
 rcases List.mem_cons.mp (I.Ei b hb) with e | hb
 ·rw[e];exact I.free
 ·obtain ⟨_,o,ho,_⟩:=I.ok.o8.mem hb;exact I.base.free b o ho (I.ok.frf b hb) λz=>I.ok.exfs b z hb
theorem Inv.step {g':Array GenState} {t':Nat} {d':Drawn} {ch:List Addr} (I:Inv X pins σ H s)
  (hch:∀b∈ch,(b∈X.ex∨X.s₀.heap.objs.size≤b)∧b≠X.env.locals∧(∀x c,X.env.cells.lookup x=some c→c≠b)∧∀p∈X.pn++pins,p.1≠b)
  (keep:∀b o,b≠X.env.locals→b∉X.fs→b∉ch→s.heap.get? b=some o→H b=none→h'.get? b=some o)
  (slot:∀b o,b≠X.env.locals→b∈X.fs→b∉ch→s.heap.get? b=some o→H b=none→∃sl,h'.get? b=some { o with slots:=sl }) (free:∀b o,b∉ch→s.heap.get? b=some o→H b=none→H' b=none)
  (there:∀b o,b∉ch→s.heap.get? b=some o→∃o',h'.get? b=some o')
  (tups:∀b xs,H b=some (.tup xs)→H' b=some (.tup xs)) (frzs:∀b o u,H b=some (.frz o u)→H' b=some (.frz o u)) (tbls:∀b ps,H b=some (.tbl ps)→∃more,H' b=some (.tbl (ps++more)))
  (ns:∀m,s.heap.Ns X.env.locals m→h'.Ns X.env.locals m) (hok:HOk X.prog X.w H' h') (hg:AllBare g'):
  Inv X pins σ H' { s with heap:=h',gens:=g',drawn:=d',toks:=t' }:=by
 have neL:∀b o,X.s₀.heap.get? b=some o→b≠X.env.locals:=λb o e=>aao (aam (Heap.lt_size e) I.ok.above);have neC:∀b o,X.s₀.heap.get? b=some o→b∉X.ex→b∉ch:=λb o e hx hb=>by
  rcases (hch b hb).1 with z | z
  ·exact hx z
  ·exact absurd (aam (Heap.lt_size e) z) (abg _)
 have cellK:∀x c,X.env.cells.lookup x=some c→∀v,s.heap.IsCell c v→h'.IsCell c v:=λx c e v ⟨o,ho,hd⟩=>by
  have nch:c∉ch:=λz=>(hch c z).2.2.1 x c e rfl;by_cases hc:c∈X.fs
  ·obtain ⟨sl,q⟩:=slot c o (I.cne x c e) hc nch ho (I.freeC x c e);exact ⟨_,q,hd⟩
  ·exact ⟨o,keep c o (I.cne x c e) hc nch ho (I.freeC x c e),hd⟩
 refine ⟨I.ok,I.os,hg,⟨λb o e n hb hx=>?_,λb o e n hb hx=>?_,λb o e n hx=>?_,λb o e hx=>?_,λb xs e=>tups b xs (I.base.tups b xs e),λb o xs e=>frzs b o xs (I.base.frzs b o xs e),λb ps e=>?_⟩,?_,λx c e=>?_,?_,λx c e=>?_,λp hp=>?_,hok,I.len⟩
 ·exact keep b o (neL b o e) hb (neC b o e hx) (I.base.keep b o e n hb hx) (I.base.free b o e n hx)
 ·obtain ⟨sl,e1⟩:=I.base.slot b o e n hb hx;obtain ⟨sl',e2⟩:=slot b _ (neL b o e) hb (neC b o e hx) e1 (I.base.free b o e n hx);exact ⟨sl',e2⟩
 ·obtain ⟨o',e1⟩:=I.base.there b o e hx;exact free b o' (neC b o e hx) e1 (I.base.free b o e n hx)
 ·obtain ⟨o',e1⟩:=I.base.there b o e hx;exact there b o' (neC b o e hx) e1
 ·obtain ⟨m1,e1⟩:=I.base.tbls b ps e;obtain ⟨m2,e2⟩:=tbls b _ e1;exact ⟨m1++m2,by rw[e2,Array.append_assoc]⟩
 ·obtain ⟨m,hn,hl⟩:=I.loc;refine ⟨m,ns m hn,λi x v e1 e2 e3=>?_⟩;obtain ⟨u,r,l⟩:=hl i x v e1 e2 e3;refine ⟨u,r,?_⟩;rcases l with l | ⟨k,c,e,z⟩
  ·exact .inl l
  ·exact .inr ⟨k,c,e,cellK x c e _ z⟩
 ·obtain ⟨v,z⟩:=I.cell x c e;exact ⟨v,cellK x c e v z⟩
 ·obtain ⟨m,⟨o,_,_,ho,_⟩,_⟩:=I.loc;exact free _ o (λz=>(hch _ z).2.1 rfl) ho I.free
 ·obtain ⟨v,o,ho,hd⟩:=I.cell x c e;exact free c o (λz=>(hch c z).2.2.1 x c e rfl) ho (I.freeC x c e)
 ·obtain ⟨e,n,ne,nf,d⟩:=I.pin p hp;have nch:p.1∉ch:=λz=>(hch p.1 z).2.2.2 p hp rfl;exact ⟨keep p.1 p.2 ne nf nch e n,free p.1 p.2 nch e n,ne,nf,d⟩
theorem Inv.un {t':Nat} (I:Inv X pins σ H s) (u:Un X.fs [] H H' s.heap h') (hok:HOk X.prog X.w H' h'):Inv X pins σ H' { s with heap:=h',toks:=t' }:=by
 obtain ⟨m,⟨o,es,ep,ho,r⟩,_⟩:=id I.loc;obtain ⟨sl,hL⟩:=u.any ho I.free (by simp);exact I.step (g':=s.gens) (d':=s.drawn) (ch:=[]) (λ_ z=>nomatch z) (λb o _ hb _ e n=>u.keep b o e n hb (by simp)) (λb o _ hb _ e n=>u.slot b o e n hb (by simp)) (λb o _ e n=>u.free b o e n (by simp)) (λb o _ e=>u.there b o e (by simp)) u.tups u.frzs u.tbls (λm' hm=>by
  obtain ⟨o',es',ep',ho',r'⟩:=hm;rw[ho] at ho';cases ho';exact ⟨_,es',ep',hL,r'⟩) hok I.bare
theorem Inv.call {g':Array GenState} {t':Nat} {d':Drawn} {ch:List Addr} (I:Inv X pins σ H s) (u:Un (frs X.stack) ch H H' s.heap h') (hok:HOk X.prog X.w H' h') (hg:AllBare g')
  (hch:∀b∈ch,(b∈X.ex∨X.s₀.heap.objs.size≤b)∧b≠X.env.locals∧(∀x c,X.env.cells.lookup x=some c→c≠b)∧∀p∈X.pn++pins,p.1≠b):
  Inv X pins σ H' { s with heap:=h',gens:=g',drawn:=d',toks:=t' }:=by
 obtain ⟨m,⟨o,es,ep,ho,r⟩,_⟩:=id I.loc;obtain ⟨sl,hL⟩:=u.any ho I.free λz=>(hch _ z).2.1 rfl;exact I.step (ch:=ch) hch (λb o hL hb hc e n=>u.keep b o e n (λz=>(List.mem_cons.mp (I.Ei b z)).elim hL hb) hc) (λb o _ _ hc e n=>u.any e n hc) (λb o hc e n=>u.free b o e n hc) (λb o hc e=>u.there b o e hc) u.tups u.frzs u.tbls (λm' hm=>by
  obtain ⟨o',es',ep',ho',r'⟩:=hm;rw[ho] at ho';cases ho';exact ⟨_,es',ep',hL,r'⟩) hok hg
theorem Inv.turned {t':Nat} {it:Addr} (I:Inv X pins σ H s) (k:∀b o,b≠it→s.heap.get? b=some o→h'.get? b=some o) (hn:H it=none) (hL:it≠X.env.locals)
  (h1:it∈X.ex∨X.s₀.heap.objs.size≤it) (h2:∀x c,X.env.cells.lookup x=some c→c≠it) (h3:∀p∈X.pn++pins,p.1≠it):Inv X pins σ H { s with heap:=h',toks:=t' }:=by
 have nit:∀b u,H b=some u→b≠it:=λb u e z=>by rw[z,hn] at e;cases e
 refine I.step (g':=s.gens) (d':=s.drawn) (ch:=[it]) (λb hb=>?_) (λb o _ _ hc e _=>k b o (λz=>hc (by simp[z])) e) (λb o _ _ hc e _=>⟨o.slots,k b o (λz=>hc (by simp[z])) e⟩) (λ_ _ _ _ n=>n)
  (λb o hc e=>⟨o,k b o (λz=>hc (by simp[z])) e⟩) (λ_ _ e=>e) (λ_ _ _ e=>e) (λb ps e=>⟨#[],by rw[e];simp⟩) (λm hm=>?_) (λb u e=>?_) I.bare
 ·have e:b=it:=by simpa using hb
  subst e;exact ⟨h1,hL,h2,h3⟩
 ·obtain ⟨o,es,ep,ho,r⟩:=hm;exact ⟨o,es,ep,k _ o (Ne.symm hL) ho,r⟩
 ·refine (I.hok b u e).Bi (λc v hc q=>k c v ?_ q) (λ_ q=>q) λ_ _ q=>q;rcases hc with z | z
  ·rw[z];exact nit b u e
  ·exact nit c _ z
theorem Inv.tok (I:Inv X pins σ H s) (t:Nat):Inv X pins σ H { s with toks:=t }:=I.un (h':=s.heap) (t':=t) Un.refl I.hok
theorem Inv.kept {t':Nat} (I:Inv X pins σ H s) (k:∀b u,s.heap.get? b=some u→h'.get? b=some u):Inv X pins σ H { s with heap:=h',toks:=t' }:=I.un (Un.kept k) (I.hok.kept k)
theorem Inv.laid {a:Addr} {o:HO} {t':Nat} (I:Inv X pins σ H s) (k:∀b u,s.heap.get? b=some u→h'.get? b=some u) (hp:s.heap.objs.size≤a) (new:b7 X.prog X.w (upd H a o) h' a o):
  Inv X pins σ (upd H a o) { s with heap:=h',toks:=t' }:=I.un (Un.laid k hp (I.hok.fresh hp)) (I.hok.laid k hp new)
theorem Inv.write {x e:Addr} {o:HO} {t':Nat} (I:Inv X pins σ H s) (mu:Mut (H x)) (he:e=x∨H e=some (.own x)) (k:∀b u,b≠e→s.heap.get? b=some u→h'.get? b=some u) (heo:∃u,h'.get? e=some u)
  (new:b7 X.prog X.w (upd H x o) h' x o):Inv X pins σ (upd H x o) { s with heap:=h',toks:=t' }:=I.un (Un.write mu he k heo) (I.hok.write mu he k heo new)
theorem Inv.Ha {pins':List (Addr×Obj)} (I:Inv X pins σ H s) (h:∀p∈pins',s.heap.get? p.1=some p.2∧H p.1=none∧p.1≠X.env.locals∧p.1∉X.fs∧∀v,p.2.data≠.cell v):Inv X pins' σ H s:=
 ⟨I.ok,I.os,I.bare,I.base,I.loc,I.cell,I.free,I.freeC,λp hp=>(List.mem_append.mp hp).elim (λz=>I.pin p (abv _ z)) (h p),I.hok,I.len⟩
theorem Cd {N:List Str} (hN:N.Nodup) {i j:Nat} {x:Str} (a:N[i]?=some x) (b:N[j]?=some x):i=j:=by
 obtain ⟨h1,e1⟩:=List.getElem?_eq_some_iff.mp a;obtain ⟨h2,e2⟩:=List.getElem?_eq_some_iff.mp b;exact (adx hN).mp (e1.trans e2.symm)
theorem xl {M:Model} {A:Around} {E:Value→Shared→Prop} {i:Nat} {x:Str} {v:V} {u:Value} {Q:Unit→Shared→Prop} (I:Inv X pins σ H s) (hN:X.N.Nodup) (hi:X.N[i]?=some x) (hx:Loc X.env.scope x) (r:RelV v u)
  (h:∀s',Inv X pins (σ.set i (some v)) H s'→(∃a,Heap.SameBut a s.heap s'.heap∧(a=X.env.locals∨X.env.cells.lookup x=some a))→Q () s') (hf:X.fn x=true∨X.env.scope.names.lookup x=some .local:=by first | exact .inl rfl | exact .inr rfl | assumption):wpAny M A (storeName X.env x u) Q E s:=by
 obtain ⟨m,hn,hl⟩:=id I.loc;have hcls:(X.env.scope.kind==.class||(X.env.scope.kind==.module&&X.env.locals !=X.env.globals))=false:=by rw[I.ok.kind];rfl
 have hiσ:i < σ.length:=by rw[I.len];exact (List.getElem?_eq_some_iff.mp hi).1
 have cne:=I.cne;have tracked:∀{a:Addr} {h':Heap},(∃o,s.heap.get? a=some o∧H a=none)→Heap.SameBut a s.heap h'→HOk X.prog X.w H h':=λ{a h'} ha hs b ob e=>by
  obtain ⟨_,_,hfree⟩:=ha;refine (I.hok b ob e).Bi (λc w' hc q=>(hs.2 c ?_).trans q) (λ_ q=>q) λ_ _ q=>q;rintro rfl;rcases hc with rfl | hc
  ·rw[hfree] at e;cases e
  ·rw[hfree] at hc;cases hc
 rcases hx with hk | hk
 ·refine wpAny_storeName_local hk hn (λh' hn' hs=>?_) hcls;obtain ⟨oL,_,_,hoL,_⟩:=id hn;refine h _ ⟨I.ok,I.os,I.bare,⟨λb o e n hb hx=>?_,λb o e n hb hx=>?_,I.base.free,λb o e hx=>?_,I.base.tups,I.base.frzs,I.base.tbls⟩,⟨_,hn',λj y v' e1 e2 e3=>?_⟩,λy c e=>?_,I.free,I.freeC,λp hp=>?_,tracked ⟨oL,hoL,I.free⟩ hs,by simpa using I.len⟩ ⟨_,hs,.inl rfl⟩
  ·exact (hs.2 b (aao (aam (Heap.lt_size e) I.ok.above))).trans (I.base.keep b o e n hb hx)
  ·obtain ⟨sl,e1⟩:=I.base.slot b o e n hb hx;exact ⟨sl,(hs.2 b (aao (aam (Heap.lt_size e) I.ok.above))).trans e1⟩
  ·obtain ⟨o',e1⟩:=I.base.there b o e hx;exact ⟨o',(hs.2 b (aao (aam (Heap.lt_size e) I.ok.above))).trans e1⟩
  ·by_cases hj:j=i
   ·subst hj;rw[hi] at e1;cases e1;rw[aec hiσ] at e2;cases e2
    exact ⟨u,r,.inl ⟨hk,by simp⟩⟩
   ·rw[aeg (Ne.symm hj)] at e2;obtain ⟨u',r',q⟩:=hl j y v' e1 e2 e3;refine ⟨u',r',?_⟩;rcases q with ⟨k,e⟩ | ⟨k,c,e,z⟩
    ·refine .inl ⟨k,?_⟩;have:y≠x:=λe=>hj (Cd hN e1 (e ▸ hi));simp[this,e]
    ·exact .inr ⟨k,c,e,z.sameBut hs (cne y c e)⟩
  ·obtain ⟨w',z⟩:=I.cell y c e;exact ⟨w',z.sameBut hs (cne y c e)⟩
  ·obtain ⟨e,n,ne,nf,d⟩:=I.pin p hp;exact ⟨(hs.2 p.1 ne).trans e,n,ne,nf,d⟩
 ·have hfn:X.fn x=true:=by
   rcases hf with z | z
   ·exact z
   ·rw[z] at hk;cases hk
  obtain ⟨c,hc⟩:=I.ok.has x (.inl hk);obtain ⟨w',z⟩:=I.cell x c hc;refine wpAny_storeName_cell I.ok.kind hk hc z (λh' hc' hs=>?_);obtain ⟨oc,hoc,hocd⟩:=id z;refine h { s with heap:=h' } ⟨I.ok,I.os,I.bare,⟨λb o e n hb hx=>?_,λb o e n hb hx=>?_,I.base.free,λb o e hx=>?_,I.base.tups,I.base.frzs,I.base.tbls⟩,⟨m,hn.sameBut hs (Ne.symm (cne x c hc)),λj y v' e1 e2 e3=>?_⟩,λy c' e=>?_,I.free,I.freeC,λp hp=>?_,tracked ⟨oc,hoc,I.freeC x c hc⟩ hs,by simpa using I.len⟩ ⟨c,hs,.inr hc⟩
  ·exact (hs.2 b (aao (aam (Heap.lt_size e) (I.ok.cab x c hfn hc)))).trans (I.base.keep b o e n hb hx)
  ·obtain ⟨sl,e1⟩:=I.base.slot b o e n hb hx;exact ⟨sl,(hs.2 b (aao (aam (Heap.lt_size e) (I.ok.cab x c hfn hc)))).trans e1⟩
  ·obtain ⟨o',e1⟩:=I.base.there b o e hx;exact ⟨o',(hs.2 b (aao (aam (Heap.lt_size e) (I.ok.cab x c hfn hc)))).trans e1⟩
  ·by_cases hj:j=i
   ·subst hj;rw[hi] at e1;cases e1;rw[aec hiσ] at e2;cases e2
    exact ⟨u,r,.inr ⟨.inl hk,c,hc,hc'⟩⟩
   ·rw[aeg (Ne.symm hj)] at e2;obtain ⟨u',r',q⟩:=hl j y v' e1 e2 e3;refine ⟨u',r',?_⟩;rcases q with q | ⟨k,c',e,z'⟩
    ·exact .inl q
    ·refine .inr ⟨k,c',e,z'.sameBut hs ?_⟩;rintro rfl;exact hj (Cd hN e1 (I.ok.inj _ _ _ e hc ▸ hi))
  ·by_cases hcc:c'=c
   ·subst hcc;exact ⟨_,hc'⟩
   ·obtain ⟨w2,z2⟩:=I.cell y c' e;exact ⟨w2,z2.sameBut hs hcc⟩
  ·obtain ⟨e,n,ne,nf,d⟩:=I.pin p hp;refine ⟨(hs.2 p.1 ?_).trans e,n,ne,nf,d⟩;intro q;rw[q,hoc] at e;have q':oc=p.2:=aa3 e;exact d w' (by rw[←q'];exact hocd)
theorem ur {M:Model} {A:Around} {E:Value→Shared→Prop} {i:Nat} {x:Str} {v:V} {u:Value} {Q:Unit→Shared→Prop} (I:Inv X pins σ H s) (hN:X.N.Nodup) (hi:X.N[i]?=some x) (hx:Loc X.env.scope x) (r:RelV v u)
  (h:∀s',Inv X pins (σ.set i (some v)) H s'→Q () s') (hf:X.fn x=true∨X.env.scope.names.lookup x=some .local:=by first | exact .inl rfl | exact .inr rfl | assumption):wpAny M A (storeName X.env x u) Q E s:=
 xl I hN hi hx r (λs' I' _=>h s' I') hf
theorem Inv.Kc {s':Shared} {ch:List Addr} (I:Inv X pins σ H s) (ho:s'.os=s.os) (u:Un (frs X.stack) ch H H' s.heap s'.heap) (hok:HOk X.prog X.w H' s'.heap) (hg:AllBare s'.gens)
  (hch:∀b∈ch,(b∈X.ex∨X.s₀.heap.objs.size≤b)∧b≠X.env.locals∧(∀x c,X.env.cells.lookup x=some c→c≠b)∧∀p∈X.pn++pins,p.1≠b):Inv X pins σ H' s':=by
 obtain ⟨h',g',d',t',o'⟩:=s';have e:o'=s.os:=ho;subst e;exact I.call (g':=g') (t':=t') (d':=d') u hok hg hch
end
abbrev XK:=Value→Option Addr→Hp→Prop
abbrev St:=List (Option V)
abbrev VK:=V→Hp→Prop
abbrev TE:=St→Hp→VK→Prop
abbrev TT:=St→Hp→(Bool→Hp→Prop)→Prop
abbrev TA:=St→Hp→(List V→Hp→Prop)→Prop
structure Ends where
 nx:St→Hp→Prop
 rt:VK
 bk:St→Hp→Prop:=λ_ _=>False
 ct:St→Hp→Prop:=λ_ _=>False
abbrev TS:=Ends→St→Hp→Prop
def EP (X:Cx) (pins:List (Addr×Obj)) (σ:St) (Q:VK) (u:Value) (s':Shared):Prop:=∃v H',Inv X pins σ H' s'∧RelV v u∧Q v H'
def TP (X:Cx) (pins:List (Addr×Obj)) (σ:St) (Q:Bool→Hp→Prop) (b:Bool) (s':Shared):Prop:=∃H',Inv X pins σ H' s'∧Q b H'
def AP (X:Cx) (pins:List (Addr×Obj)) (σ:St) (Q:List V→Hp→Prop) (us:List Value) (s':Shared):Prop:=∃vs H',Inv X pins σ H' s'∧Vals vs us∧Q vs H'
def SP (X:Cx) (pins:List (Addr×Obj)) (D:Ends) (f:Flow) (s':Shared):Prop:=
 match f with
 | .next=>∃σ' H',Inv X pins σ' H' s'∧D.nx σ' H'
 | .brk=>∃σ' H',Inv X pins σ' H' s'∧D.bk σ' H'
 | .cont=>∃σ' H',Inv X pins σ' H' s'∧D.ct σ' H'
 | .ret u=>∃v σ' H',Inv X pins σ' H' s'∧RelV v u∧D.rt v H'
def PE (X:Cx) (e:Expr) (t:TE):Prop:=
 ∀(pins:List (Addr×Obj)) (s:Shared) (σ:St) (H:Hp) (Q:VK),Inv X pins σ H s→t σ H Q→wpAny (model X.prog X.w) X.A (eval e X.env) (EP X pins σ Q) X.xe s
def PT (X:Cx) (e:Expr) (t:TT):Prop:=
 ∀(pins:List (Addr×Obj)) (s:Shared) (σ:St) (H:Hp) (Q:Bool→Hp→Prop),Inv X pins σ H s→t σ H Q→wpAny (model X.prog X.w) X.A (isTrue e X.env (eval e X.env)) (TP X pins σ Q) X.xe s
def PW (X:Cx) (e:Expr) (t:TT):Prop:=
 ∀(whole:Sem Value) (pins:List (Addr×Obj)) (s:Shared) (σ:St) (H:Hp) (Q:Bool→Hp→Prop),Inv X pins σ H s→t σ H Q→wpAny (model X.prog X.w) X.A (isTrue e X.env whole) (TP X pins σ Q) X.xe s
theorem PW.pt {X:Cx} {e:Expr} {t:TT} (h:PW X e t):PT X e t:=h _
def PA (X:Cx) (es:List Expr) (t:TA):Prop:=
 ∀(pos:Pos) (pins:List (Addr×Obj)) (s:Shared) (σ:St) (H:Hp) (Q:List V→Hp→Prop),Inv X pins σ H s→t σ H Q→wpAny (model X.prog X.w) X.A (spliced (backTo pos (starEach es X.env))) (AP X pins σ Q) X.xe s
def PS (X:Cx) (st:Stmt) (t:TS):Prop:=
 ∀(pins:List (Addr×Obj)) (s:Shared) (σ:St) (H:Hp) (D:Ends),Inv X pins σ H s→t D σ H→wpAny (model X.prog X.w) X.A (exec st X.env) (SP X pins D) X.xe s
def PSs (X:Cx) (st:List Stmt) (t:TS):Prop:=
 ∀(pins:List (Addr×Obj)) (s:Shared) (σ:St) (H:Hp) (D:Ends),Inv X pins σ H s→t D σ H→wpAny (model X.prog X.w) X.A (execs st X.env) (SP X pins D) X.xe s
theorem thn {α:Type} {t:Sem α} {Q Q':α→Shared→Prop} {M:Model} {A:Around} {E:Value→Shared→Prop} {s:Shared} (h:wpAny M A t Q E s) (hQ:∀a s,Q a s→Q' a s):wpAny M A t Q' E s:=wpAny_mono h hQ λ_ _ x=>x
section
variable {X:Cx}
def tVar (i:Nat):TE:=λσ H Q=>∃v,σ[i]?=some (some v)∧Q v H
def tC (v:V):TE:=λ_ H Q=>Q v H
theorem pe_var {i:Nat} {x:Str} {pos:Pos} (hN:X.N[i]?=some x) (hv:Vis X.env.scope x) (hd:(x==("__debug__":Str))=false:=by decide) (hcd:(x==("__classdict__":Str))=false:=by decide):PE X (.Name x pos) (tVar i):=by
 intro pins s σ H Q I h;obtain ⟨v,e,h⟩:=h;obtain ⟨m,hn,hl⟩:=I.loc;obtain ⟨u,r,l⟩:=hl i x v hN e hv;have fin:EP X pins σ Q u s:=⟨v,H,I,r,h⟩;rcases l with ⟨hk,hm⟩ | ⟨hk,c,hc,hcell⟩
 ·exact wpAny_Name (wpAny_loadName_local I.ok.kind hk hn hm fin) hd
 ·rcases hk with hk | hk
  ·exact wpAny_Name (wpAny_loadName_cell I.ok.kind hk hc hcell fin) hd
  ·exact wpAny_Name (wpAny_loadName_free I.ok.kind hk hc hcell fin hcd) hd
theorem Ll {i j pos}:PE X (.Constant (.int i) j pos) (tC (.int i)):=λ_ _ _ H _ I h=>wpAny_Constant_int ⟨.int i,H,I.tok _,⟨_,rfl⟩,h⟩
theorem pe_bl {b j pos}:PE X (.Constant (.bool b) j pos) (tC (.bl b)):=λ_ _ _ H _ I h=>Constant_bool ⟨.bl b,H,I,rfl,h⟩
theorem o7 {j pos}:PE X (.Constant .none j pos) (tC .non):=λ_ _ _ H _ I h=>Constant_none ⟨.non,H,I,rfl,h⟩
theorem Mg {x j pos}:PE X (.Constant (.str x) j pos) (tC (.str x)):=λ_ _ _ H _ I h=>Calls.Constant_str ⟨.str x,H,I.tok _,⟨_,rfl⟩,h⟩
def Gl (X:Cx) (x:Str):Prop:=X.env.kindOf x=some .globalImplicit
theorem nq {E:Value→Shared→Prop} {pins:List (Addr×Obj)} {s:Shared} {σ:St} {H:Hp} {x:Str} {u:Value} {pos:Pos} {Q:Value→Shared→Prop} (I:Inv X pins σ H s) (hg:Gl X x) (hm:X.mg x=some u) (h:Q u s)
  (hd:(x==("__debug__":Str))=false:=by decide):wpAny (model X.prog X.w) X.A (eval (.Name x pos) X.env) Q E s:=
 Calls.Name_function_global I.ok.kind hg (Calls.loadGlobal_global (by rw[I.ok.glob];exact I.mod.glob.keeps I.bk) hm h) hd
theorem gz {E:Value→Shared→Prop} {pins:List (Addr×Obj)} {s:Shared} {σ:St} {H:Hp} {x:Str} {u:Value} {pos:Pos} {Q:Value→Shared→Prop} (I:Inv X pins σ H s) (hg:Gl X x) (hm:X.mg x=none) (hv:bootBuiltins x=some u) (h:Q u s)
  (hn:x≠"__name__":=by decide) (hd:(x==("__debug__":Str))=false:=by decide):wpAny (model X.prog X.w) X.A (eval (.Name x pos) X.env) Q E s:=by
 obtain ⟨mb,h1,h2⟩:=I.mod.blt;exact Calls.Name_function_global I.ok.kind hg (Calls.loadGlobal_builtin (by rw[I.ok.glob];exact I.mod.glob.keeps I.bk) hm (by rw[I.ok.blt];exact h1.keeps I.bk) ((h2 x hn).trans hv) h) hd
theorem Nr {x:Str} {v:V} {u:Value} {pos:Pos} (hg:Gl X x) (hm:X.mg x=some u) (r:RelV v u) (hd:(x==("__debug__":Str))=false:=by decide):PE X (.Name x pos) (tC v):=
 λ_ _ _ H _ I h=>nq I hg hm ⟨v,H,I,r,h⟩ hd
theorem Nx {x:Str} {v:V} {u:Value} {pos:Pos} (hg:Gl X x) (hm:X.mg x=none) (hv:bootBuiltins x=some u) (r:RelV v u) (hn:x≠"__name__":=by decide) (hd:(x==("__debug__":Str))=false:=by decide):PE X (.Name x pos) (tC v):=
 λ_ _ _ H _ I h=>gz I hg hm hv ⟨v,H,I,r,h⟩ hn hd
variable {a b:Expr} {ta tb:TE} {pos:Pos}
def PC (X:Cx) (op:CmpOp) (a b:Expr) (t:TE):Prop:=
 ∀(pins:List (Addr×Obj)) (s:Shared) (σ:St) (H:Hp) (Q:VK),Inv X pins σ H s→t σ H Q→
  wpAny (model X.prog X.w) X.A (eval a X.env) (λv s₁=>wpAny (model X.prog X.w) X.A (eval b X.env) (λu s₂=>wpAny (model X.prog X.w) X.A (compareOp op v u) (EP X pins σ Q) X.xe s₂) X.xe s₁) X.xe s
theorem dq (b:Expr) {op:CmpOp} (h:op≠.In) (h2:op≠.NotIn):behindInMarks op b=false:=by
 have e1:(op==CmpOp.In)=false:=by cases op <;> first | rfl | exact absurd rfl h
 have e2:(op==CmpOp.NotIn)=false:=by cases op <;> first | rfl | exact absurd rfl h2
 cases b <;> simp[behindInMarks,e1,e2]
def tIsN (ta:TE):TE:=λσ H Q=>ta σ H λx H1=>Q (.bl (decide (x=.non))) H1
def qu (ta:TE):TE:=λσ H Q=>ta σ H λx H1=>Q (.bl (!decide (x=.non))) H1
theorem RelV.Bb {x:V} {v:Value} (r:RelV x v):(v==Value.none)=decide (x=.non):=by
 cases x with
 | non=>cases r;rfl
 | bl _=>cases r;rfl
 | int _=>obtain ⟨t,rfl⟩:=r;rfl
 | str _=>obtain ⟨t,rfl⟩:=r;rfl
 | byt _=>obtain ⟨t,rfl⟩:=r;rfl
 | flt _=>obtain ⟨t,rfl⟩:=r;rfl
 | ref _=>cases r;rfl
 | ty _=>cases r;rfl
theorem pc_isN {j pos'} (ha:PE X a ta):PC X .Is a (.Constant .none j pos') (tIsN ta):=by
 intro pins s σ H Q I h;refine thn (ha pins s σ H _ I h) λv s1 ⟨x,H1,I1,r1,q1⟩=>?_;exact Constant_none (is_none_gen ⟨.bl _,H1,I1,by rw[r1.Bb];rfl,q1⟩)
theorem Q8 {j pos'} (ha:PE X a ta):PC X .IsNot a (.Constant .none j pos') (qu ta):=by
 intro pins s σ H Q I h;refine thn (ha pins s σ H _ I h) λv s1 ⟨x,H1,I1,r1,q1⟩=>?_;exact Constant_none (isnot_none_gen ⟨.bl _,H1,I1,by rw[r1.Bb];rfl,q1⟩)
def tB (t:TE):TT:=λσ H Q=>t σ H λx H1=>∃c,x=.bl c∧Q c H1
theorem pt_cmp {op:CmpOp} {t:TE} (h:PC X op a b t) (h1:behindInMarks op b=false:=by first | exact dq _ (by decide) (by decide) | rfl):PT X (.Compare a [op] [b] pos) (tB t):=by
 intro pins s σ H Q I hw;refine wpAny_isTrue_Compare1 (thn (h pins s σ H _ I hw) λv s1 h1=>thn h1 λu s2 h2=>thn h2 λc s3 ⟨x,H1,I1,r1,q1⟩=>?_) h1;obtain ⟨d,rfl,q⟩:=q1;cases r1
 exact wpAny_truthy_bool ⟨H1,I1,q⟩
theorem pt_val {e:Expr} {t:TE} (h:PE X e t) (he:∀whole,isTrue e X.env whole=(do let v ←whole;standAt e.pos;holding [v] (truthy v)):=by intro _;rfl):PT X e (tB t):=by
 intro pins s σ H Q I hw;refine isTrue_plain (thn (h pins s σ H _ I hw) λv s1 ⟨x,H1,I1,r1,q1⟩=>?_) (he _);obtain ⟨d,rfl,q⟩:=q1;cases r1
 exact wpAny_truthy_bool ⟨H1,I1,q⟩
variable {tA tB':TT} {rest:List Expr}
def tAnd (t u:TT):TT:=λσ H Q=>t σ H λc H1=>if c=true then u σ H1 Q else Q false H1
def tOr (t u:TT):TT:=λσ H Q=>t σ H λc H1=>if c=true then Q true H1 else u σ H1 Q
def tNot (t:TT):TT:=λσ H Q=>t σ H λc H1=>Q (!c) H1
theorem Q6 (ha:PT X a tA):PW X (.BoolOp .And [a] pos) tA:=by
 intro wh pins s σ H Q I h;refine isTrue_and (thn (ha pins s σ H Q I h) λc s1 e=>?_);cases c with
 | true=>exact isTrue_and_nil e
 | false=>exact e
theorem ym (ha:PT X a tA):PW X (.BoolOp .Or [a] pos) tA:=by
 intro wh pins s σ H Q I h;refine isTrue_or (thn (ha pins s σ H Q I h) λc s1 e=>?_);cases c with
 | false=>exact isTrue_or_nil e
 | true=>exact e
theorem pw_and (ha:PT X a tA) (hb:PW X (.BoolOp .And (b::rest) pos) tB'):PW X (.BoolOp .And (a::b::rest) pos) (tAnd tA tB'):=by
 intro wh pins s σ H Q I h;refine isTrue_and (thn (ha pins s σ H _ I h) λc s1 ⟨H1,I1,q1⟩=>?_);cases c with
 | true=>exact hb wh pins s1 σ H1 Q I1 q1
 | false=>exact ⟨H1,I1,q1⟩
theorem pw_or (ha:PT X a tA) (hb:PW X (.BoolOp .Or (b::rest) pos) tB'):PW X (.BoolOp .Or (a::b::rest) pos) (tOr tA tB'):=by
 intro wh pins s σ H Q I h;refine isTrue_or (thn (ha pins s σ H _ I h) λc s1 ⟨H1,I1,q1⟩=>?_);cases c with
 | true=>exact ⟨H1,I1,q1⟩
 | false=>exact hb wh pins s1 σ H1 Q I1 q1
theorem Mi (ha:PT X a tA):PT X (.UnaryOp .Not a pos) (tNot tA):=by
 intro pins s σ H Q I h;exact isTrue_not (ha pins s σ H (λc H1=>Q (!c) H1) I h)
def tAndV (ta tb:TE):TE:=λσ H Q=>ta σ H λx H1=>∃c,x=.bl c∧if c=true then tb σ H1 Q else Q (.bl false) H1
def tOrV (ta tb:TE):TE:=λσ H Q=>ta σ H λx H1=>∃c,x=.bl c∧if c=true then Q (.bl true) H1 else tb σ H1 Q
def tNotV (ta:TE):TE:=λσ H Q=>ta σ H λx H1=>∃c,x=.bl c∧Q (.bl (!c)) H1
theorem pe_one {op} {t:TE} (h:PE X a t):PE X (.BoolOp op [a] pos) t:=λpins s σ H Q I hw=>BoolOp_one (h pins s σ H Q I hw)
theorem pe_and (ha:PE X a ta) (hb:PE X (.BoolOp .And (b::rest) pos) tb):PE X (.BoolOp .And (a::b::rest) pos) (tAndV ta tb):=by
 intro pins s σ H Q I h;refine BoolOp_and (thn (ha pins s σ H _ I h) λv s1 ⟨x,H1,I1,r1,q1⟩=>?_);obtain ⟨c,rfl,q1⟩:=q1;cases r1
 refine wpAny_truthy_bool ?_;cases c with
 | true=>exact hb pins s1 σ H1 Q I1 q1
 | false=>exact ⟨.bl false,H1,I1,rfl,q1⟩
theorem pe_not (ha:PE X a ta):PE X (.UnaryOp .Not a pos) (tNotV ta):=by
 intro pins s σ H Q I h;refine UnaryOp_ (thn (ha pins s σ H _ I h) λv s1 ⟨x,H1,I1,r1,q1⟩=>?_);obtain ⟨c,rfl,q1⟩:=q1;cases r1
 exact not_of (wpAny_truthy_bool ⟨.bl (!c),H1,I1,rfl,q1⟩)
def tIf (t:TT) (ta tb:TE):TE:=λσ H Q=>t σ H λc H1=>if c=true then ta σ H1 Q else tb σ H1 Q
theorem L5 {c:Expr} (hc:PT X c tA) (ha:PE X a ta) (hb:PE X b tb):PE X (.IfExp c a b pos) (tIf tA ta tb):=by
 intro pins s σ H Q I h;refine wpAny_IfExp (thn (hc pins s σ H _ I h) λd s1 ⟨H1,I1,q1⟩=>?_);cases d with
 | true=>exact ha pins s1 σ H1 Q I1 q1
 | false=>exact hb pins s1 σ H1 Q I1 q1
end
def SqL (K:PySem.W.Frag) (H:Hp) (a:Addr) (xs:List V):Prop:=
 Rd H a (.lst xs)∨
  ∃(o:Obj) (its:Array Value) (n:Nat),K.lookup a=some o∧o.cls=.type "list"∧o.dict=none∧o.data=.seq its n∧its.size≤sizeLine∧Vals xs its.toList
def SqT (K:PySem.W.Frag) (H:Hp) (a:Addr) (xs:List V):Prop:=
 Rd H a (.tup xs)∨
  ∃(o:Obj) (its:Array Value) (n:Nat),K.lookup a=some o∧o.cls=.type "tuple"∧o.data=.seq its n∧its.size≤sizeLine∧Vals xs its.toList
noncomputable def absV:Value→Option V
 | .none=>some .non
 | .bool b=>some (.bl b)
 | .int i _=>some (.int i)
 | .str x _=>some (.str x)
 | .bytes b _=>some (.byt b)
 | .float b _=>some (.flt b)
 | .ref a=>some (.ref a)
 | .type n=>some (.ty n)
 | _=>none
theorem RelV.abs {x:V} {u:Value} (r:RelV x u):absV u=some x:=by
 cases x with
 | non=>cases r;rfl
 | bl _=>cases r;rfl
 | int _=>obtain ⟨t,rfl⟩:=r;rfl
 | str _=>obtain ⟨t,rfl⟩:=r;rfl
 | byt _=>obtain ⟨t,rfl⟩:=r;rfl
 | flt _=>obtain ⟨t,rfl⟩:=r;rfl
 | ref _=>cases r;rfl
 | ty _=>cases r;rfl
theorem RelV.inj {x y:V} {u:Value} (r:RelV x u) (q:RelV y u):x=y:=aa3 (r.abs.symm.trans q.abs)
theorem Vals.inj:∀{xs ys:List V} {us:List Value},Vals xs us→Vals ys us→xs=ys
 | _,_,_,.nil,.nil=>rfl
 | _,_,_,.cons r t,.cons r' t'=>by rw[r.inj r',Vals.inj t t']
section
variable {X:Cx} {pins:List (Addr×Obj)} {σ:St} {H:Hp} {s:Shared} {a:Addr} {xs ys:List V}
theorem SqL.of {K:PySem.W.Frag} (h:H a=some (.lst xs)):SqL K H a xs:=.inl (.inl h)
theorem SqT.of {K:PySem.W.Frag} (h:H a=some (.tup xs)):SqT K H a xs:=.inl (.inl h)
theorem Inv.list (I:Inv X pins σ H s) (h:SqL X.K H a xs):∃its:List Value,Vals xs its∧PlainL s.heap a its.toArray∧xs.length≤sizeLine:=by
 rcases h with h | ⟨o,its,n,hk,hc,hd,hs,hz,r⟩
 ·obtain ⟨z,its,n,r,e⟩:=h.ok I.hok;exact ⟨its,r,⟨_,n,e,rfl,rfl,rfl⟩,z⟩
 ·refine ⟨its.toList,r,⟨o,n,I.kIn a o hk,hc,hd,by simpa using hs⟩,?_⟩;have e:=r.length;simp only[ac0] at e;omega
theorem Inv.tuple (I:Inv X pins σ H s) (h:SqT X.K H a xs):∃its:List Value,Vals xs its∧IsTup s.heap a its.toArray∧xs.length≤sizeLine:=by
 rcases h with h | ⟨o,its,n,hk,hc,hs,hz,r⟩
 ·obtain ⟨z,its,r,p⟩:=h.ok I.hok;exact ⟨its,r,p.tup,z⟩
 ·refine ⟨its.toList,r,⟨o,I.kIn a o hk,hc,n,by simpa using hs⟩,?_⟩;have e:=r.length;simp only[ac0] at e;omega
theorem Inv.tm (I:Inv X pins σ H s) (h:SqL X.K H a xs) (h':SqL X.K H a ys):xs=ys:=by
 obtain ⟨its,r,⟨o,n,e,_,_,d⟩,_⟩:=I.list h;obtain ⟨its',r',⟨o',n',e',_,_,d'⟩,_⟩:=I.list h';rw[e] at e';cases e';rw[d] at d';injection d' with d1 _
 have:its=its':=by simpa using congrArg Array.toList d1
 subst this;exact r.inj r'
theorem Inv.we (I:Inv X pins σ H s) (h:SqT X.K H a xs) (h':SqT X.K H a ys):xs=ys:=by
 obtain ⟨its,r,⟨o,e,_,n,d⟩,_⟩:=I.tuple h;obtain ⟨its',r',⟨o',e',_,n',d'⟩,_⟩:=I.tuple h';rw[e] at e';cases e';rw[d] at d';injection d' with d1 _
 have:its=its':=by simpa using congrArg Array.toList d1
 subst this;exact r.inj r'
end
noncomputable abbrev Cx.n0 (X:Cx) (E:Value→Shared→Prop):Cx:={ X with xe:=E }
noncomputable abbrev Cx.nox (X:Cx):Cx:=X.n0 λ_ _=>False
theorem Cx.Ok.n0 {X:Cx} (ok:X.Ok) (E:Value→Shared→Prop):(X.n0 E).Ok:=
 ⟨ok.mod,ok.kind,ok.glob,ok.blt,ok.above,ok.inj,ok.has,ok.cab,ok.hd,ok.frames,ok.stk,ok.exf,ok.bs,ok.bsz,ok.noex,ok.exfs,ok.o8,ok.frf⟩
theorem Cx.Ok.dn {X:Cx} {E:Value→Shared→Prop} (ok:(X.n0 E).Ok):X.Ok:=
 ⟨ok.mod,ok.kind,ok.glob,ok.blt,ok.above,ok.inj,ok.has,ok.cab,ok.hd,ok.frames,ok.stk,ok.exf,ok.bs,ok.bsz,ok.noex,ok.exfs,ok.o8,ok.frf⟩
section
variable {X:Cx} {pins:List (Addr×Obj)} {σ:St} {H:Hp} {s:Shared} {E:Value→Shared→Prop}
theorem Inv.n0 (I:Inv X pins σ H s) (E:Value→Shared→Prop):Inv (X.n0 E) pins σ H s:=⟨I.ok.n0 E,I.os,I.bare,I.base,I.loc,I.cell,I.free,I.freeC,I.pin,I.hok,I.len⟩
theorem Inv.dn (I:Inv (X.n0 E) pins σ H s):Inv X pins σ H s:=⟨I.ok.dn,I.os,I.bare,I.base,I.loc,I.cell,I.free,I.freeC,I.pin,I.hok,I.len⟩
theorem SP.dn {D:Ends} {f:Flow} {s':Shared} (h:SP (X.n0 E) pins D f s'):SP X pins D f s':=by
 cases f with
 | next=>obtain ⟨σ',H',I,q⟩:=h;exact ⟨σ',H',I.dn,q⟩
 | brk=>obtain ⟨σ',H',I,q⟩:=h;exact ⟨σ',H',I.dn,q⟩
 | cont=>obtain ⟨σ',H',I,q⟩:=h;exact ⟨σ',H',I.dn,q⟩
 | ret u=>obtain ⟨v,σ',H',I,r,q⟩:=h;exact ⟨v,σ',H',I.dn,r,q⟩
theorem PSs.nox {st:List Stmt} {t:TS} (h:PSs X.nox st t):PSs X st t:=λpins s σ H D I hw=>
 wpAny_mono (h pins s σ H D (I.n0 _) hw) (λ_ _ q=>q.dn) λ_ _ z=>False.elim z
end
section
variable {X:Cx} {st:Stmt} {rest:List Stmt} {t u:TS} {e:Expr} {te:TE} {pos:Pos}
def tNext:TS:=λD σ H=>D.nx σ H
def tSeq (t u:TS):TS:=λD σ H=>t { D with nx:=u D } σ H
theorem P7:PSs X [] tNext:=λ_ _ σ H _ I h=>wpAny_execs_nil ⟨σ,H,I,h⟩
theorem Ka (h1:PS X st t) (h2:PSs X rest u):PSs X (st::rest) (tSeq t u):=by
 intro pins s σ H D I h;refine wpAny_execs_cons (thn (h1 pins s σ H { D with nx:=u D } I h) λf s1 q=>?_);cases f with
 | next=>
  obtain ⟨σ',H',I',q⟩:=q;exact h2 pins s1 σ' H' D I' q
 | ret v=>exact q
 | brk=>exact q
 | cont=>exact q
theorem Ob (h1:PS X st t):PSs X [st] t:=by
 intro pins s σ H D I h;refine wpAny_execs_cons (thn (h1 pins s σ H D I h) λf s1 q=>?_);cases f with
 | next=>exact wpAny_execs_nil q
 | ret v=>exact q
 | brk=>exact q
 | cont=>exact q
def tCont:TS:=λD σ H=>D.ct σ H
theorem Ca:PS X (.Continue pos) tCont:=λ_ _ σ H _ I h=>wpAny_Continue ⟨σ,H,I,h⟩
theorem Inv.quiet {pins:List (Addr×Obj)} {σ:St} {H:Hp} {s:Shared} (I:Inv X pins σ H s):interactive X.env=false:=by simp[interactive,I.ok.kind]
def tDrop (te:TE):TS:=λD σ H=>te σ H λ_ H1=>D.nx σ H1
theorem P4 (he:PE X e te) (hs:swapsWith e none pos.line X.env=pure false:=by rfl):PS X (.Expr e pos) (tDrop te):=by
 intro pins s σ H D I h;exact wpAny_Expr_any (thn (he pins s σ H _ I h) λv s1 ⟨x,H1,I1,r1,q1⟩=>⟨σ,H1,I1,q1⟩) I.quiet hs
def tRet (te:TE):TS:=λD σ H=>te σ H D.rt
theorem ps_ret (he:PE X e te):PS X (.Return (some e) pos) (tRet te):=by
 intro pins s σ H D I h;exact wpAny_Return_some (thn (he pins s σ H _ I h) λv s1 ⟨x,H1,I1,r1,q1⟩=>⟨x,σ,H1,I1,r1,q1⟩)
def tRetN:TS:=λD _ H=>D.rt .non H
def tIfS (c:TT) (t u:TS):TS:=λD σ H=>c σ H λb H1=>if b=true then t D σ H1 else u D σ H1
theorem ps_if {c:Expr} {a b:List Stmt} {tc:TT} (hc:PT X c tc) (ha:PSs X a t) (hb:PSs X b u):PS X (.If c a b pos) (tIfS tc t u):=by
 intro pins s σ H D I h;refine wpAny_If (thn (hc pins s σ H _ I h) λd s1 ⟨H1,I1,q1⟩=>?_);cases d with
 | true=>exact ha pins s1 σ H1 D I1 q1
 | false=>exact hb pins s1 σ H1 D I1 q1
end
abbrev TG:=V→St→Hp→(St→Hp→Prop)→Prop
abbrev TGs:=List V→St→Hp→(St→Hp→Prop)→Prop
def PG (X:Cx) (target:Expr) (t:TG):Prop:=
 ∀(pins:List (Addr×Obj)) (s:Shared) (σ:St) (H:Hp) (v:V) (u:Value) (Q:St→Hp→Prop),Inv X pins σ H s→RelV v u→t v σ H Q→
  wpAny (model X.prog X.w) X.A (assign target X.env u) (λ_ s'=>∃σ' H',Inv X pins σ' H' s'∧Q σ' H') X.xe s
def PGs (X:Cx) (ts:List Expr) (t:TGs):Prop:=
 ∀(pins:List (Addr×Obj)) (s:Shared) (σ:St) (H:Hp) (vs:List V) (us:List Value) (Q:St→Hp→Prop),Inv X pins σ H s→Vals vs us→t vs σ H Q→
  wpAny (model X.prog X.w) X.A (assignInOrder ((assignEach ts X.env).map (·.2)) us) (λ_ s'=>∃σ' H',Inv X pins σ' H' s'∧Q σ' H') X.xe s
abbrev TSet:=V→V→V→Hp→(Hp→Prop)→Prop
def PSet (X:Cx) (t:TSet):Prop:=
 ∀(pins:List (Addr×Obj)) (s:Shared) (σ:St) (H:Hp) (o i v:V) (ov iv u:Value) (Q:Hp→Prop),Inv X pins σ H s→RelV o ov→RelV i iv→RelV v u→t o i v H Q→
  wpAny (model X.prog X.w) X.A (setItem ov iv u) (λ_ s'=>∃H',Inv X pins σ H' s'∧Q H') X.xe s
section
variable {X:Cx} {pos:Pos}
def cb (i:Nat):TG:=λv σ H Q=>Q (σ.set i (some v)) H
theorem Gn {i:Nat} {x:Str} (hN:X.N.Nodup) (hi:X.N[i]?=some x) (hx:Loc X.env.scope x) (hf:X.fn x=true∨X.env.scope.names.lookup x=some .local:=by first | exact .inl rfl | exact .inr rfl | assumption):PG X (.Name x pos) (cb i):=by
 intro pins s σ H v u Q I r h;exact wpAny_assign_Name (ur I hN hi hx r (λs' I'=>⟨_,H,I',h⟩) hf)
def Bx:TGs:=λvs σ H Q=>vs=[]∧Q σ H
def dr (t:TG) (u:TGs):TGs:=λvs σ H Q=>∃v r,vs=v::r∧t v σ H λσ' H'=>u r σ' H' Q
theorem Om:PGs X [] Bx:=by
 intro pins s σ H vs us Q I r h;obtain ⟨e,h⟩:=h;subst e;cases r
 exact assignInOrder_nil ⟨σ,H,I,h⟩
theorem Le {e:Expr} {es:List Expr} {t:TG} {u:TGs} (h1:PG X e t) (h2:PGs X es u)
  (hs:(assignEach (e::es) X.env).map (·.2)=assign e X.env::(assignEach es X.env).map (·.2):=by rfl):PGs X (e::es) (dr t u):=by
 intro pins s σ H vs us Q I r h;obtain ⟨v,vr,e1,h⟩:=h;subst e1;cases r with
 | cons r rr=>
  rw[hs];refine assignInOrder_cons (thn (h1 pins s σ H _ _ _ I r h) λ_ s1 ⟨σ1,H1,I1,q1⟩=>?_);exact h2 pins s1 σ1 H1 _ _ Q I1 rr q1
def vw (K:PySem.W.Frag) (n:Nat) (t:TGs):TG:=λv σ H Q=>∃a xs,v=.ref a∧SqT K H a xs∧xs.length=n∧t xs σ H Q
theorem Dx {es:List Expr} {k:Nat} {t:TGs} {n:Nat} (hc:X.calm=true) (h:PGs X es t)
  (hn:(assignEach es X.env).length=n:=by rfl) (hst:(assignEach es X.env).findIdx? (·.1)=none:=by rfl):PG X (.Tuple es k pos) (vw X.K n t):=by
 intro pins s σ H v u Q I r hw;obtain ⟨a,xs,e1,hq,hl,hw⟩:=hw;subst e1;cases r
 obtain ⟨its,rv,ht,hz⟩:=I.tuple hq;refine assign_Tuple_tuple (I.ok.hd hc) ht (by simp[hn,←hl,rv.length]) hst λh' hx=>?_;have I1:Inv X pins σ H { s with heap:=h' }:=I.kept (t':=s.toks) λb o e=>hx b o (aao (Heap.lt_size e)) e;exact h pins _ σ H xs _ Q I1 (by simpa using rv) hw
def gSub (to ti:TE) (t:TSet):TG:=λv σ H Q=>to σ H λo H1=>ti σ H1 λi H2=>t o i v H2 λH3=>Q σ H3
theorem K2 {o i:Expr} {to ti:TE} {t:TSet} (ho:PE X o to) (hi:PE X i ti) (hs:PSet X t)
  (ha:∀v,assign (.Subscript o i pos) X.env v=(do
   let ov ←holding [v] (eval o X.env)
   let iv ←holding [v,ov] (eval i X.env)
   standAt pos
   holding [v,ov,iv] (setItem ov iv v)
   release [v,ov,iv] []):=by intro _;rfl):PG X (.Subscript o i pos) (gSub to ti t):=by
 intro pins s σ H v u Q I r h;rw[ha];refine wpAny_bind (wpAny_holding (thn (ho pins s σ H _ I h) λov s1 ⟨x,H1,I1,r1,q1⟩=>?_));refine wpAny_bind (wpAny_holding (thn (hi pins s1 σ H1 _ I1 q1) λiv s2 ⟨y,H2,I2,r2,q2⟩=>?_));refine wpAny_bind (wpAny_standAt (wpAny_bind (wpAny_holding (thn (hs pins s2 σ H2 x y v ov iv u _ I2 r1 r2 r q2) λ_ s3 ⟨H3,I3,q3⟩=>?_))));exact wpAny_release ⟨σ,H3,I3,q3⟩
def tAsg (te:TE) (g:TG):TS:=λD σ H=>te σ H λx H1=>g x σ H1 D.nx
theorem ps_asg {tg e:Expr} {te:TE} {g:TG} (he:PE X e te) (hg:PG X tg g) (hs:swapsWithSole [tg] e pos.line X.env=pure false:=by rfl) (hw:swappedStores [tg] e X.env=pure none:=by rfl)
  (h1:(assignEach [tg] X.env).map (·.2)=[assign tg X.env]:=by rfl):PS X (.Assign [tg] e pos) (tAsg te g):=by
 intro pins s σ H D I h;refine wpAny_Assign_stores (thn (he pins s σ H _ I h) λv s1 ⟨x,H1,I1,r1,q1⟩=>?_) hs hw;rw[h1];exact thn (hg pins s1 σ H1 x v _ I1 r1 q1) λ_ s2 q=>q
theorem Mb {i:Nat} {x:Str} {e:Expr} {te:TE} {pos':Pos} (hN:X.N.Nodup) (hi:X.N[i]?=some x) (hx:Loc X.env.scope x) (he:PE X e te) (hs:swapsWith e (some (.Name x pos')) pos.line X.env=pure false:=by rfl) (hf:X.fn x=true∨X.env.scope.names.lookup x=some .local:=by first | exact .inl rfl | exact .inr rfl | assumption):
  PS X (.Assign [.Name x pos'] e pos) (tAsg te (cb i)):=by
 intro pins s σ H D I h;refine wpAny_Assign_Name (thn (he pins s σ H _ I h) λv s1 ⟨y,H1,I1,r1,q1⟩=>?_) hs;exact ur I1 hN hi hx r1 (λs2 I2=>⟨_,H1,I2,q1⟩) hf
end
section
variable {X:Cx} {pos:Pos}
def Mu (c:TT) (tb:TS):TS:=λD σ H=>∃W:Nat→St→Hp→Prop,(∃m,W m σ H)∧∀m σ H,W m σ H→
 c σ H λb H1=>if b=true then ∃N:St→Hp→Prop,(∀σ' H',N σ' H'→∃m',m' < m∧W m' σ' H')∧tb { D with nx:=N,ct:=N,bk:=D.nx } σ H1 else D.nx σ H1
theorem Ar {c:Expr} {body:List Stmt} {tc:TT} {tb:TS} (hp:PassesOwn (model X.prog X.w) X.A X.env X.xe) (hc:PT X c tc) (hb:PSs X body tb):PS X (.While c body [] pos) (Mu tc tb):=by
 intro pins s σ H D I h;obtain ⟨W,⟨m0,w0⟩,turn⟩:=h;refine wpAny_While (codeAny_whileLoop (λn s'=>∃σ' H',Inv X pins σ' H' s'∧W n σ' H') ?_ m0 ⟨σ,H,I,w0⟩);rintro n s1 ⟨σ1,H1,I1,w1⟩;refine wpAny_passesOwn hp (thn (hc pins s1 σ1 H1 _ I1 (turn n σ1 H1 w1)) λb s2 ⟨H2,I2,q2⟩=>?_);cases b with
 | true=>
  obtain ⟨N,hN,q2⟩:=q2;rw[if_pos rfl];refine wpAny_passesOwn hp (thn (hb pins s2 σ1 H2 _ I2 q2) λf s3 q3=>?_);cases f with
  | next=>
   obtain ⟨σ3,H3,I3,n3⟩:=q3;obtain ⟨m',hm,w3⟩:=hN σ3 H3 n3;exact ⟨m',hm,σ3,H3,I3,w3⟩
  | cont=>
   obtain ⟨σ3,H3,I3,n3⟩:=q3;obtain ⟨m',hm,w3⟩:=hN σ3 H3 n3;exact ⟨m',hm,σ3,H3,I3,w3⟩
  | brk=>exact q3
  | ret v=>exact q3
 | false=>
  rw[if_neg aaj];exact wpAny_execs_nil ⟨σ1,H2,I2,q2⟩
end
structure It where
 go:Nat→Hp→Prop
 yld:Nat→Hp→V→Hp→Prop
 stop:Nat→Hp→Prop
def qg (X:Cx) (pins:List (Addr×Obj)) (H:Hp) (b:Addr):Prop:=
 H b=none∧b≠X.env.locals∧b∉X.fs∧(b∈X.ex∨X.s₀.heap.objs.size≤b)∧(∀x c,X.env.cells.lookup x=some c→c≠b)∧∀p∈X.pn++pins,p.1≠b
theorem Inv.wc {X:Cx} {pins:List (Addr×Obj)} {σ:St} {H H':Hp} {s:Shared} {b:Addr} (I:Inv X pins σ H s) (hb:s.heap.objs.size≤b) (hn:H' b=none):qg X pins H' b:=by
 refine ⟨hn,abc (aam I.lt hb),I.nofs hb,.inr (aar I.sz hb),λx c e z=>?_,λp hp z=>?_⟩
 ·obtain ⟨v,q⟩:=I.cell x c e;exact absurd (aam q.lt (by rw[z];exact hb)) (abg _)
 ·exact absurd (aam (Heap.lt_size (I.pin p hp).1) (by rw[z];exact hb)) (abg _)
structure Turn (P:Program) (w:World) (K:PySem.W.Frag) (tg:Expr) (J:It) (fp:List Addr) (it:Addr) (tn:Nat→Heap→Prop):Prop where
 mem:it∈fp
 obj:∀i h,tn i h→∀b∈fp,∃o,h.get? b=some o∧∀v,o.data≠.cell v
 keep:∀i h h',tn i h→(∀b∈fp,∀o,h.get? b=some o→h'.get? b=some o)→tn i h'
 item:∀(X:Cx),X.prog=P→X.w=w→X.K=K→X.calm=true→∀(i:Nat) (pins:List (Addr×Obj)) (s:Shared) (σ:St) (H:Hp) (E:Value→Shared→Prop),Inv X pins σ H s→(∀b∈fp,qg X pins H b)→tn i s.heap→J.go i H→
  wpAny (model P w) X.A (pyNext (.ref it)) (λr s1=>∃u,r=some u∧
   wpAny (model P w) X.A (letOwnedTupleGo tg (.ref it) u) (λ_ s2=>∃x H',Inv X pins σ H' s2∧RelV x u∧J.yld i H x H'∧tn (i+1) s2.heap∧∀b∈fp,H' b=none) E s1) E s
 done:∀(X:Cx),X.prog=P→X.w=w→X.K=K→X.calm=true→∀(i:Nat) (pins:List (Addr×Obj)) (s:Shared) (σ:St) (H:Hp) (E:Value→Shared→Prop),Inv X pins σ H s→(∀b∈fp,qg X pins H b)→tn i s.heap→J.stop i H→
  wpAny (model P w) X.A (pyNext (.ref it)) (λr s1=>r=none∧Inv X pins σ H s1) E s
 self:∀(A:Around) (i:Nat) (s:Shared) (Q:Value→Shared→Prop) (E:Value→Shared→Prop),tn i s.heap→Q (.ref it) s→wpAny (model P w) A (pyIter (.ref it)) Q E s
abbrev TI:=St→Hp→(It→Hp→Prop)→Prop
def PIE (X:Cx) (pins:List (Addr×Obj)) (σ:St) (tg:Expr) (R:It→Hp→Prop) (itv:Value) (s2:Shared):Prop:=
 ∃(it:Addr) (fp:List Addr) (tn:Nat→Heap→Prop) (J:It) (H':Hp),itv=.ref it∧Inv X pins σ H' s2∧Turn X.prog X.w X.K tg J fp it tn∧tn 0 s2.heap∧(∀b∈fp,qg X pins H' b)∧R J H'
def PI (X:Cx) (tg iter:Expr) (wi:TI):Prop:=
 ∀(pins:List (Addr×Obj)) (s:Shared) (σ:St) (H:Hp) (R:It→Hp→Prop),Inv X pins σ H s→wi σ H R→
  wpAny (model X.prog X.w) X.A (eval iter X.env) (λv s1=>wpAny (model X.prog X.w) X.A (pyIter v) (PIE X pins σ tg R) X.xe s1) X.xe s
theorem Cb {M:Model} {A:Around} {E:Value→Shared→Prop} {s:Shared} {tg:Expr} {it:Addr} {u:Value} {o:Obj} {n:String} {vs:Array Value} {Q:Unit→Shared→Prop} (ho:s.heap.get? it=some o) (hc:o.cls=.type n) (hd:o.data=.fields vs)
    (hn:["enumerate","zip","dict_itemiterator","dict_reverseitemiterator","odict_iterator","itertools.zip_longest","itertools.pairwise"].contains n=false) (hQ:Q () s):wpAny M A (letOwnedTupleGo tg (.ref it) u) Q E s:=by
  unfold letOwnedTupleGo;cases tg <;> first
    | exact wpAny_pure hQ
    | (cases u <;> first
        | exact wpAny_pure hQ
        | (refine wpAny_bind (wpAny_load ho ?_)
           rw[hc,hd];show wpAny M A (if (["enumerate","zip","dict_itemiterator","dict_reverseitemiterator","odict_iterator","itertools.zip_longest","itertools.pairwise"].contains n&&vs[0]?==some (rawInt _))=true then _ else _) Q E s
           rw[if_neg (by intro h;rw[hn,Bool.false_and] at h;cases h)];exact wpAny_pure hQ))
noncomputable def Itl (K:PySem.W.Frag) (a:Addr):It:=
 ⟨λi H=>∃xs x,SqL K H a xs∧xs[i]?=some x,λi H x H'=>H'=H∧∀xs,SqL K H a xs→xs[i]?=some x,λi H=>∃xs,SqL K H a xs∧xs.length≤i⟩
noncomputable def Itt (K:PySem.W.Frag) (a:Addr):It:=
 ⟨λi H=>∃xs x,SqT K H a xs∧xs[i]?=some x,λi H x H'=>H'=H∧∀xs,SqT K H a xs→xs[i]?=some x,λi H=>∃xs,SqT K H a xs∧xs.length≤i⟩
noncomputable def Itr (lo:Int) (n:Nat):It:=⟨λi _=>i < n,λi H x H'=>H'=H∧x=.int (lo+i),λi _=>n≤i⟩
theorem Hs {P:Program} {w:World} {K:PySem.W.Frag} {tg:Expr} (a it:Addr):Turn P w K tg (Itl K a) [it] it (λi h=>h.IsListIter it a i) where
 mem:=by simp
 obj:=λi h st b hb=>by
  have e:b=it:=by simpa using hb
  subst e;obtain ⟨o,e,c,d⟩:=st;exact ⟨o,e,λv z=>by rw[d] at z;cases z⟩
 keep:=λi h h' st k=>st.at λo e=>k it (by simp) o e
 item:=by
  intro X hP hw hK hc i pins s σ H E I hf st hg;subst hP hw hK;obtain ⟨xs,x,hq,hx⟩:=hg;obtain ⟨its,rv,p,hz⟩:=I.list hq;obtain ⟨u,hu,ru⟩:=rv.get hx;obtain ⟨f0,f1,f2,f3,f4,f5⟩:=hf it (by simp);refine wpAny_pyNext_list_item st p.isList (x:=u) (by simpa using hu) λh' st' sb=>?_;have I1:Inv X pins σ H { s with heap:=h' }:=I.turned (t':=s.toks) (λb o hb e=>(sb.2 b hb).trans e) f0 f1 f3 f4 f5;obtain ⟨o,e,c,d⟩:=id st';exact ⟨u,rfl,Cb (s:={ s with heap:=h' }) e c d (by decide) ⟨x,H,I1,ru,⟨rfl,λys hy=>by rw[I.tm hy hq];exact hx⟩,st',λb hb=>(hf b hb).1⟩⟩
 done:=by
  intro X hP hw hK hc i pins s σ H E I hf st hg;subst hP hw hK;obtain ⟨xs,hq,hx⟩:=hg;obtain ⟨its,rv,p,hz⟩:=I.list hq;obtain ⟨f0,f1,f2,f3,f4,f5⟩:=hf it (by simp);have hl:=rv.length;exact wpAny_pyNext_list_end (I.ok.hd hc) st p.isList (by simp;omega) λh' eb=>⟨rfl,I.turned (t':=s.toks) (λb o hb e=>eb b o hb e) f0 f1 f3 f4 f5⟩
 self:=λ_ _ _ _ _ st h=>wpAny_pyIter_listiter st h
theorem Eb {P:Program} {w:World} {K:PySem.W.Frag} {tg:Expr} (a it:Addr):Turn P w K tg (Itt K a) [it] it (λi h=>h.IsTupleIter it a i) where
 mem:=by simp
 obj:=λi h st b hb=>by
  have e:b=it:=by simpa using hb
  subst e;obtain ⟨o,e,c,d⟩:=st;exact ⟨o,e,λv z=>by rw[d] at z;cases z⟩
 keep:=λi h h' st k=>st.at λo e=>k it (by simp) o e
 item:=by
  intro X hP hw hK hc i pins s σ H E I hf st hg;subst hP hw hK;obtain ⟨xs,x,hq,hx⟩:=hg;obtain ⟨its,rv,p,hz⟩:=I.tuple hq;obtain ⟨u,hu,ru⟩:=rv.get hx;obtain ⟨f0,f1,f2,f3,f4,f5⟩:=hf it (by simp);refine wpAny_pyNext_tuple_item st (show s.heap.IsTuple a its.toArray from p) (x:=u) (by simpa using hu) λh' st' sb=>?_;have I1:Inv X pins σ H { s with heap:=h' }:=I.turned (t':=s.toks) (λb o hb e=>(sb.2 b hb).trans e) f0 f1 f3 f4 f5;obtain ⟨o,e,c,d⟩:=id st';exact ⟨u,rfl,Cb (s:={ s with heap:=h' }) e c d (by decide) ⟨x,H,I1,ru,⟨rfl,λys hy=>by rw[I.we hy hq];exact hx⟩,st',λb hb=>(hf b hb).1⟩⟩
 done:=by
  intro X hP hw hK hc i pins s σ H E I hf st hg;subst hP hw hK;obtain ⟨xs,hq,hx⟩:=hg;obtain ⟨its,rv,p,hz⟩:=I.tuple hq;obtain ⟨f0,f1,f2,f3,f4,f5⟩:=hf it (by simp);have hl:=rv.length;exact wpAny_pyNext_tuple_end (I.ok.hd hc) st (show s.heap.IsTuple a its.toArray from p) (by simp;omega) λh' eb=>⟨rfl,I.turned (t':=s.toks) (λb o hb e=>eb b o hb e) f0 f1 f3 f4 f5⟩
 self:=λ_ _ _ _ _ st h=>wpAny_pyIter_tupleiter st h
theorem Dz {P:Program} {w:World} {K:PySem.W.Frag} {tg:Expr} (it:Addr) (lo:Int) (n:Nat):Turn P w K tg (Itr lo n) [it] it (λi h=>IsRangeIter h it (lo+(i:Nat)*1) ((n:Int) - (i:Nat)) 1) where
 mem:=by simp
 obj:=λi h st b hb=>by
  have e:b=it:=by simpa using hb
  subst e;exact ⟨_,st,λv z=>by
   have z':Data.fields _=Data.cell v:=z;cases z'⟩
 keep:=λi h h' st k=>k it (by simp) _ st
 item:=by
  intro X hP hw hK hc i pins s σ H E I hf st hg;subst hP hw hK;obtain ⟨f0,f1,f2,f3,f4,f5⟩:=hf it (by simp);have W:=Walks.range (prog:=X.prog) (w:=X.w) (I.ok.hd hc) it lo 1 n;refine W.item i s _ _ hg st λv h' tk hv st' kk=>?_;obtain ⟨t,rfl⟩:=hv;have I1:Inv X pins σ H { s with heap:=h',toks:=tk }:=I.turned (λb o hb e=>kk b o (by simpa using hb) e) f0 f1 f3 f4 f5;refine ⟨_,rfl,Cb (s:={ s with heap:=h',toks:=tk }) (n:="range_iterator") st' rfl rfl (by decide) ⟨.int (lo+i),H,I1,⟨t,?_⟩,⟨rfl,rfl⟩,st',λb hb=>(hf b hb).1⟩⟩;rw[Int.mul_one]
 done:=by
  intro X hP hw hK hc i pins s σ H E I hf st hg;subst hP hw hK;obtain ⟨f0,f1,f2,f3,f4,f5⟩:=hf it (by simp);exact wpAny_pyNext_range_end (I.ok.hd hc) st (by have:n≤i:=hg;omega) λh' eb=>⟨rfl,I.turned (t':=s.toks) (λb o hb e=>eb b o hb e) f0 f1 f3 f4 f5⟩
 self:=λ_ _ _ _ _ st h=>wpAny_pyIter_rangeiter st h
section
variable {X:Cx} {tg:Expr}
def iList (K:PySem.W.Frag) (tl:TE):TI:=λσ H R=>tl σ H λx H1=>∃a,x=.ref a∧(∃xs,SqL K H1 a xs)∧R (Itl K a) H1
def iTup (K:PySem.W.Frag) (tl:TE):TI:=λσ H R=>tl σ H λx H1=>∃a,x=.ref a∧(∃xs,SqT K H1 a xs)∧R (Itt K a) H1
theorem Pp {l:Expr} {tl:TE} (hl:PE X l tl):PI X tg l (iList X.K tl):=by
 intro pins s σ H R I h;refine thn (hl pins s σ H _ I h) λv s1 ⟨x,H1,I1,r1,q1⟩=>?_;obtain ⟨a,e,⟨xs,hq⟩,q⟩:=q1;subst e;cases r1
 obtain ⟨its,rv,p,hz⟩:=I1.list hq;refine wpAny_pyIter_list p.isList ?_;refine ⟨s1.heap.objs.size,[s1.heap.objs.size],_,_,H1,rfl,I1.kept (t':=s1.toks) λb o e=>Heap.get?_push_of_some _ e,Hs a _,⟨_,Heap.get?_push_size _ rfl,rfl,rfl⟩,λb hb=>?_,q⟩;have e:b=s1.heap.objs.size:=by simpa using hb
 subst e;exact I1.wc (aa4 _) (I1.hok.fresh (aa4 _))
theorem pi_tup {l:Expr} {tl:TE} (hl:PE X l tl):PI X tg l (iTup X.K tl):=by
 intro pins s σ H R I h;refine thn (hl pins s σ H _ I h) λv s1 ⟨x,H1,I1,r1,q1⟩=>?_;obtain ⟨a,e,⟨xs,hq⟩,q⟩:=q1;subst e;cases r1
 obtain ⟨its,rv,p,hz⟩:=I1.tuple hq;refine wpAny_pyIter_tuple (show s1.heap.IsTuple a its.toArray from p) ?_;refine ⟨s1.heap.objs.size,[s1.heap.objs.size],_,_,H1,rfl,I1.kept (t':=s1.toks) λb o e=>Heap.get?_push_of_some _ e,Eb a _,⟨_,Heap.get?_push_size _ rfl,rfl,rfl⟩,λb hb=>?_,q⟩;have e:b=s1.heap.objs.size:=by simpa using hb
 subst e;exact I1.wc (aa4 _) (I1.hok.fresh (aa4 _))
theorem J6 {pins:List (Addr×Obj)} {σ:St} {H:Hp} {s:Shared} {R:It→Hp→Prop} {E:Value→Shared→Prop} {lo hi:Int} {t u v:Tok} {tk:Nat} (I:Inv X pins σ H s) (h1:-(2 ^ 62)≤lo) (h2:lo < 2 ^ 62) (h3:-(2 ^ 62)≤hi) (h4:hi < 2 ^ 62)
  (q:R (Itr lo (hi - lo).toNat) H):wpAny (model X.prog X.w) X.A (pyIter (.ref s.heap.objs.size)) (PIE X pins σ tg R) E { s with heap:=s.heap.push { cls:=.type "range",data:=.fields #[.int lo t,.int hi u,.int 1 v] },toks:=tk }:=by
 refine wpAny_pyIter_range (IsRange.new ..) (small_one h1 h2 h3 h4) ?_;have I1:Inv X pins σ H { s with heap:=s.heap.push { cls:=.type "range",data:=.fields #[.int lo t,.int hi u,.int 1 v] },toks:=tk }:=I.kept λb o e=>Heap.get?_push_of_some _ e;refine ⟨(s.heap.push { cls:=.type "range",data:=.fields #[.int lo t,.int hi u,.int 1 v] }).objs.size,[(s.heap.push { cls:=.type "range",data:=.fields #[.int lo t,.int hi u,.int 1 v] }).objs.size],_,_,H,rfl,
  I1.kept (t':=tk) λb o e=>Heap.get?_push_of_some _ e,Dz _ lo (hi - lo).toNat,?_,λb hb=>?_,q⟩
 ·have e1:lo+((0:Nat):Int)*1=lo:=by simp
  have e2:(((hi - lo).toNat:Nat):Int) - ((0:Nat):Int)=Builtin.Range.rangeSize lo hi 1:=by rw[rangeSize_one];split <;> omega
  show IsRangeIter _ _ (lo+((0:Nat):Int)*1) ((((hi - lo).toNat:Nat):Int) - ((0:Nat):Int)) 1
  rw[e1,e2];exact Heap.get?_push_size _ rfl
 ·have e:b=(s.heap.push { cls:=.type "range",data:=.fields #[.int lo t,.int hi u,.int 1 v] }).objs.size:=by simpa using hb
  subst e;exact I1.wc (aa4 _) (I1.hok.fresh (aa4 _))
def iRng1 (ta:TA):TI:=λσ H R=>ta σ H λvs H1=>∃j:Int,vs=[.int j]∧-(2 ^ 62)≤j∧j < 2 ^ 62∧R (Itr 0 j.toNat) H1
def iRng2 (ta:TA):TI:=λσ H R=>ta σ H λvs H1=>∃i j:Int,vs=[.int i,.int j]∧(-(2 ^ 62)≤i∧i < 2 ^ 62∧-(2 ^ 62)≤j∧j < 2 ^ 62)∧R (Itr i (j - i).toNat) H1
theorem Ih {a:Expr} {ta:TA} {p pos:Pos} (hg:Gl X "range") (hm:X.mg "range"=none) (ha:PA X [a] ta) (hs:starEach [a] X.env=[(false,eval a X.env)]:=by rfl):PI X tg (.Call (.Name "range" p) [a] [] pos) (iRng1 ta):=by
 intro pins s σ H R I h;refine Call_ (gz I hg hm boot_range (PyProof.Rows.callWith_type1 (thn (ha pos pins s σ H _ I h) λus s1 ⟨vs,H1,I1,r1,q1⟩=>?_) hs rfl));obtain ⟨j,e,q1,q2,q⟩:=q1;subst e;cases r1 with
 | cons r rr=>
  cases rr
  obtain ⟨t,rfl⟩:=r;exact call_range_1 (J6 I1 (by omega) (by omega) q1 q2 (by simpa using q))
def tFor (wi:TI) (g:TG) (tb:TS):TS:=λD σ H=>wi σ H λJ H1=>∃W:Nat→Nat→St→Hp→Prop,(∃m,W 0 m σ H1)∧∀i m σ H,W i m σ H→
 (J.stop i H∧D.nx σ H)∨(J.go i H∧∃N:St→Hp→Prop,(∀σ' H',N σ' H'→∃m',m' < m∧W (i+1) m' σ' H')∧∀x H',J.yld i H x H'→g x σ H' λσ2 H2=>tb { D with nx:=N,ct:=N,bk:=D.nx } σ2 H2)
noncomputable def uc (fp:List Addr) (h:Heap):List (Addr×Obj):=fp.filterMap λb=>(h.get? b).map λo=>(b,o)
theorem jf {fp:List Addr} {h:Heap} {b:Addr} {o:Obj} (hb:b∈fp) (e:h.get? b=some o):(b,o)∈uc fp h:=List.mem_filterMap.mpr ⟨b,hb,by rw[e];rfl⟩
theorem Ht {fp:List Addr} {h:Heap} {p:Addr×Obj} (hp:p∈uc fp h):p.1∈fp∧h.get? p.1=some p.2:=by
 obtain ⟨b,hb,e⟩:=List.mem_filterMap.mp hp;cases q:h.get? b with
 | none=>rw[q] at e;cases e
 | some o=>
  rw[q] at e;have e':(b,o)=p:=aa3 e;subst e';exact ⟨hb,q⟩
theorem Inv.pinned {pins:List (Addr×Obj)} {σ:St} {H:Hp} {s:Shared} {fp:List Addr} (I:Inv X pins σ H s) (hf:∀b∈fp,qg X pins H b) (ho:∀b∈fp,∃o,s.heap.get? b=some o∧∀v,o.data≠.cell v):Inv X (pins++uc fp s.heap) σ H s:=
 I.Ha λp hp=>(List.mem_append.mp hp).elim (λz=>I.pin p (aau _ z)) λz=>by
  obtain ⟨hb,e⟩:=Ht z;obtain ⟨f0,f1,f2,_⟩:=hf p.1 hb;obtain ⟨o,e',d⟩:=ho p.1 hb;rw[e] at e';cases e';exact ⟨e,f0,f1,f2,d⟩
theorem Inv.ni {pins pl:List (Addr×Obj)} {σ:St} {H:Hp} {s:Shared} (I:Inv X (pins++pl) σ H s):Inv X pins σ H s:=I.Ha λp hp=>I.pin p (aau _ (abv _ hp))
theorem Et {iter:Expr} {body:List Stmt} {wi:TI} {g:TG} {tb:TS} {pos:Pos} (hp:PassesOwn (model X.prog X.w) X.A X.env X.xe) (hc:X.calm=true) (hi:PI X tg iter wi) (hg:PG X tg g) (hb:PSs X body tb)
  (hs:∀x,foldedSetIterable iter X.env x=pure x:=by intro _;rfl):PS X (.For tg iter body [] pos) (tFor wi g tb):=by
 intro pins s σ H D I h;refine wpAny_For (thn (hi pins s σ H _ I h) λv s1 h1=>thn h1 λitv s2 h2=>?_) hs;obtain ⟨it,fp,tn,J,H2,e,I2,T,st2,f2,W,⟨m0,w0⟩,turn⟩:=h2;subst e;have stat:∀{H':Hp},(∀b∈fp,H' b=none)→∀b∈fp,qg X pins H' b:=λhn b hb=>⟨hn b hb,(f2 b hb).2⟩;refine codeAny_forLoop_any (λn s'=>∃i σ' H',Inv X pins σ' H' s'∧tn i s'.heap∧(∀b∈fp,H' b=none)∧W i n σ' H') ?_ m0 ⟨0,σ,H2,I2,st2,λb hb=>(f2 b hb).1,w0⟩;rintro n s3 ⟨i,σ3,H3,I3,st3,fr3,w3⟩;rcases turn i n σ3 H3 w3 with ⟨stop,qn⟩ | ⟨go,N,hN,step⟩
 ·refine wpAny_passesOwn hp (thn (T.done X rfl rfl rfl hc i pins s3 σ3 H3 X.xe I3 (stat fr3) st3 stop) λr s4 ⟨hr,I4⟩=>?_);subst hr;exact wpAny_execs_nil ⟨σ3,H3,I4,qn⟩
 ·refine wpAny_passesOwn hp (thn (T.item X rfl rfl rfl hc i pins s3 σ3 H3 X.xe I3 (stat fr3) st3 go) λr s4 ⟨u,hr,h4⟩=>?_);subst hr;refine wpAny_passesOwn hp (thn h4 λ_ s5 ⟨x,H5,I5,r5,y5,st5,fr5⟩=>?_);have I5':=I5.pinned (stat fr5) (T.obj _ _ st5);refine wpAny_passesOwn hp (thn (hg _ s5 σ3 H5 x u _ I5' r5 (step x H5 y5)) λ_ s6 ⟨σ6,H6,I6,q6⟩=>?_);refine wpAny_passesOwn hp (thn (hb _ s6 σ6 H6 _ I6 q6) λf s7 q7=>?_);have again:∀{σ7:St} {H7:Hp},Inv X (pins++uc fp s5.heap) σ7 H7 s7→N σ7 H7→∃m,m < n∧∃i σ' H',Inv X pins σ' H' s7∧tn i s7.heap∧(∀b∈fp,H' b=none)∧W i m σ' H':=λ{σ7 H7} I7 n7=>by
   obtain ⟨m',hm,w7⟩:=hN σ7 H7 n7;refine ⟨m',hm,i+1,σ7,H7,I7.ni,T.keep _ _ _ st5 λb hb o e=>(I7.pin (b,o) (aau _ (aau _ (jf hb e)))).1,λb hb=>?_,w7⟩;obtain ⟨o,e,d⟩:=T.obj _ _ st5 b hb;exact (I7.pin (b,o) (aau _ (aau _ (jf hb e)))).2.1
  cases f with
  | next=>obtain ⟨σ7,H7,I7,n7⟩:=q7;exact again I7 n7
  | cont=>obtain ⟨σ7,H7,I7,n7⟩:=q7;exact again I7 n7
  | brk=>obtain ⟨σ7,H7,I7,q7⟩:=q7;exact ⟨σ7,H7,I7.ni,q7⟩
  | ret v=>obtain ⟨x7,σ7,H7,I7,r7,q7⟩:=q7;exact ⟨x7,σ7,H7,I7.ni,r7,q7⟩
end
theorem Kz {K:PySem.W.Frag} {a:Addr} {xs:List V} {g:TG} {tb:TS} {D:Ends} {σ:St} {H:Hp} (Pv:Nat→St→Hp→Prop) (h0:Pv 0 σ H) (hl:∀i σ H,i≤xs.length→Pv i σ H→SqL K H a xs)
  (hs:∀i x σ H,xs[i]?=some x→Pv i σ H→g x σ H λσ2 H2=>tb { D with nx:=Pv (i+1),ct:=Pv (i+1),bk:=D.nx } σ2 H2) (hd:∀σ H,Pv xs.length σ H→D.nx σ H):
  ∃W:Nat→Nat→St→Hp→Prop,(∃m,W 0 m σ H)∧∀i m σ H,W i m σ H→
   ((Itl K a).stop i H∧D.nx σ H)∨((Itl K a).go i H∧∃N:St→Hp→Prop,(∀σ' H',N σ' H'→∃m',m' < m∧W (i+1) m' σ' H')∧∀x H',(Itl K a).yld i H x H'→g x σ H' λσ2 H2=>tb { D with nx:=N,ct:=N,bk:=D.nx } σ2 H2):=by
 refine ⟨λi m σ H=>m=xs.length - i∧i≤xs.length∧Pv i σ H,⟨xs.length,by simp,aa7 _,h0⟩,?_⟩;rintro i m σ H ⟨rfl,hi,p⟩;have q:=hl i σ H hi p;by_cases hlt:i < xs.length
 ·refine .inr ⟨⟨xs,xs[i],q,by simp[hlt]⟩,Pv (i+1),λσ' H' p'=>⟨xs.length - (i+1),by omega,rfl,hlt,p'⟩,λx H' y=>?_⟩;obtain ⟨e,y⟩:=y;subst e;exact hs i x σ _ (y xs q) p
 ·have e:i=xs.length:=by omega
  subst e;exact .inl ⟨⟨xs,q,aa4 _⟩,hd σ H p⟩
theorem N8 {K:PySem.W.Frag} {a:Addr} {xs:List V} {g:TG} {tb:TS} {D:Ends} {σ:St} {H:Hp} (Pv:Nat→St→Hp→Prop) (h0:Pv 0 σ H) (hl:∀i σ H,i≤xs.length→Pv i σ H→SqT K H a xs)
  (hs:∀i x σ H,xs[i]?=some x→Pv i σ H→g x σ H λσ2 H2=>tb { D with nx:=Pv (i+1),ct:=Pv (i+1),bk:=D.nx } σ2 H2) (hd:∀σ H,Pv xs.length σ H→D.nx σ H):
  ∃W:Nat→Nat→St→Hp→Prop,(∃m,W 0 m σ H)∧∀i m σ H,W i m σ H→
   ((Itt K a).stop i H∧D.nx σ H)∨((Itt K a).go i H∧∃N:St→Hp→Prop,(∀σ' H',N σ' H'→∃m',m' < m∧W (i+1) m' σ' H')∧∀x H',(Itt K a).yld i H x H'→g x σ H' λσ2 H2=>tb { D with nx:=N,ct:=N,bk:=D.nx } σ2 H2):=by
 refine ⟨λi m σ H=>m=xs.length - i∧i≤xs.length∧Pv i σ H,⟨xs.length,by simp,aa7 _,h0⟩,?_⟩;rintro i m σ H ⟨rfl,hi,p⟩;have q:=hl i σ H hi p;by_cases hlt:i < xs.length
 ·refine .inr ⟨⟨xs,xs[i],q,by simp[hlt]⟩,Pv (i+1),λσ' H' p'=>⟨xs.length - (i+1),by omega,rfl,hlt,p'⟩,λx H' y=>?_⟩;obtain ⟨e,y⟩:=y;subst e;exact hs i x σ _ (y xs q) p
 ·have e:i=xs.length:=by omega
  subst e;exact .inl ⟨⟨xs,q,aa4 _⟩,hd σ H p⟩
theorem Ik {lo:Int} {n:Nat} {g:TG} {tb:TS} {D:Ends} {σ:St} {H:Hp} (Pv:Nat→St→Hp→Prop) (h0:Pv 0 σ H)
  (hs:∀i σ H,i < n→Pv i σ H→g (.int (lo+i)) σ H λσ2 H2=>tb { D with nx:=Pv (i+1),ct:=Pv (i+1),bk:=D.nx } σ2 H2) (hd:∀σ H,Pv n σ H→D.nx σ H):
  ∃W:Nat→Nat→St→Hp→Prop,(∃m,W 0 m σ H)∧∀i m σ H,W i m σ H→
   ((Itr lo n).stop i H∧D.nx σ H)∨((Itr lo n).go i H∧∃N:St→Hp→Prop,(∀σ' H',N σ' H'→∃m',m' < m∧W (i+1) m' σ' H')∧∀x H',(Itr lo n).yld i H x H'→g x σ H' λσ2 H2=>tb { D with nx:=N,ct:=N,bk:=D.nx } σ2 H2):=by
 refine ⟨λi m σ H=>m=n - i∧i≤n∧Pv i σ H,⟨n,by simp,aa7 _,h0⟩,?_⟩;rintro i m σ H ⟨rfl,hi,p⟩;by_cases hlt:i < n
 ·refine .inr ⟨hlt,Pv (i+1),λσ' H' p'=>⟨n - (i+1),by omega,rfl,hlt,p'⟩,λx H' y=>?_⟩;obtain ⟨e,y⟩:=y;subst e y;exact hs i σ _ hlt p
 ·have e:i=n:=by omega
  subst e;exact .inl ⟨aa4 _,hd σ H p⟩
theorem j9 {c:TT} {tb:TS} {D:Ends} {σ:St} {H:Hp} (Pv:St→Hp→Prop) (μ:St→Hp→Nat) (h0:Pv σ H)
  (hs:∀σ H,Pv σ H→c σ H λb H1=>if b=true then tb { D with nx:=λσ' H'=>Pv σ' H'∧μ σ' H' < μ σ H,ct:=λσ' H'=>Pv σ' H'∧μ σ' H' < μ σ H,bk:=D.nx } σ H1 else D.nx σ H1)
  (mono:∀σ H Q Q',(∀b H1,Q b H1→Q' b H1)→c σ H Q→c σ H Q'):Mu c tb D σ H:=by
 refine ⟨λm σ H=>m=μ σ H∧Pv σ H,⟨_,rfl,h0⟩,?_⟩;rintro m σ H ⟨rfl,p⟩;refine mono σ H _ _ (λb H1 q=>?_) (hs σ H p);cases b with
 | true=>exact ⟨_,λσ' H' ⟨p',l⟩=>⟨_,l,rfl,p'⟩,q⟩
 | false=>exact q
abbrev R2:=V→V→Hp→VK→Prop
def OpR (X:Cx) (f:Value→Value→Sem Value) (r:R2):Prop:=
 ∀(pins:List (Addr×Obj)) (s:Shared) (σ:St) (H:Hp) (x y:V) (v u:Value) (Q:VK),Inv X pins σ H s→RelV x v→RelV y u→r x y H Q→
  wpAny (model X.prog X.w) X.A (f v u) (EP X pins σ Q) X.xe s
def UnR (X:Cx) (f:Value→Sem Value) (r:V→Hp→VK→Prop):Prop:=
 ∀(pins:List (Addr×Obj)) (s:Shared) (σ:St) (H:Hp) (x:V) (v:Value) (Q:VK),Inv X pins σ H s→RelV x v→r x H Q→
  wpAny (model X.prog X.w) X.A (f v) (EP X pins σ Q) X.xe s
def jn (X:Cx) (f:Value) (r:List V→Hp→VK→Prop):Prop:=
 ∀(pins:List (Addr×Obj)) (s:Shared) (σ:St) (H:Hp) (xs:List V) (us:List Value) (Q:VK),Inv X pins σ H s→Vals xs us→r xs H Q→
  wpAny (model X.prog X.w) X.A (call f us) (EP X pins σ Q) X.xe s
def tOp (r:R2) (ta tb:TE):TE:=λσ H Q=>ta σ H λx H1=>tb σ H1 λy H2=>r x y H2 Q
def tUn (r:V→Hp→VK→Prop) (ta:TE):TE:=λσ H Q=>ta σ H λx H1=>r x H1 Q
def rI (C:Int→Int→Prop) (g:Int→Int→V):R2:=λx y H Q=>∃i j,x=.int i∧y=.int j∧C i j∧Q (g i j) H
def rI0 (g:Int→Int→V):R2:=λx y H Q=>∃i j,x=.int i∧y=.int j∧Q (g i j) H
def rU (g:Int→V):V→Hp→VK→Prop:=λx H Q=>∃i,x=.int i∧Q (g i) H
section
variable {X:Cx} {a b c:Expr} {ta tb tc:TE} {pos:Pos}
theorem binT (ha:PE X a ta) (hb:PE X b tb) {pins:List (Addr×Obj)} {s:Shared} {σ:St} {H:Hp} {R:V→V→Hp→Prop} (I:Inv X pins σ H s)
  (h:ta σ H λx H1=>tb σ H1 λy H2=>R x y H2) {Q:Value→Shared→Prop} {f:Value→Value→Sem Value}
  (hf:∀v u s2 x y H2,Inv X pins σ H2 s2→RelV x v→RelV y u→R x y H2→wpAny (model X.prog X.w) X.A (f v u) Q X.xe s2):
  wpAny (model X.prog X.w) X.A (eval a X.env) (λv s₁=>wpAny (model X.prog X.w) X.A (eval b X.env) (λu s₂=>wpAny (model X.prog X.w) X.A (f v u) Q X.xe s₂) X.xe s₁) X.xe s:=by
 refine thn (ha pins s σ H _ I h) λv s1 ⟨x,H1,I1,r1,q1⟩=>?_;refine thn (hb pins s1 σ H1 _ I1 q1) λu s2 ⟨y,H2,I2,r2,q2⟩=>?_;exact hf v u s2 x y H2 I2 r1 r2 q2
theorem pe_op {op:Operator} {r:R2} (ho:OpR X (binaryOp op) r) (ha:PE X a ta) (hb:PE X b tb):PE X (.BinOp a op b pos) (tOp r ta tb):=by
 intro pins s σ H Q I h;exact wpAny_BinOp (binT ha hb I h λv u s2 x y H2 I2 rx ry q=>ho pins s2 σ H2 x y v u Q I2 rx ry q)
theorem pe_un {op:UnaryOp} {r:V→Hp→VK→Prop} (ho:UnR X (unaryOp op) r) (ha:PE X a ta):PE X (.UnaryOp op a pos) (tUn r ta):=by
 intro pins s σ H Q I h;exact UnaryOp_ (thn (ha pins s σ H _ I h) λv s1 ⟨x,H1,I1,r1,q1⟩=>ho pins s1 σ H1 x v Q I1 r1 q1)
theorem opI {f:Value→Value→Sem Value} {C:Int→Int→Prop} {g:Int→Int→Int}
  (rule:∀(i j:Int) (t u:Tok) (s:Shared) (Q:Value→Shared→Prop) (E:Value→Shared→Prop),C i j→Q (.int (g i j) s.toks) { s with toks:=s.toks+1 }→wpAny (model X.prog X.w) X.A (f (.int i t) (.int j u)) Q E s):
  OpR X f (rI C λi j=>.int (g i j)):=by
 intro pins s σ H x y v u Q I rx ry h;obtain ⟨i,j,rfl,rfl,hc,q⟩:=h;obtain ⟨t,rfl⟩:=rx;obtain ⟨t',rfl⟩:=ry;exact rule i j t t' s _ _ hc ⟨.int (g i j),H,I.tok _,⟨_,rfl⟩,q⟩
theorem opI0 {f:Value→Value→Sem Value} {g:Int→Int→Int}
  (rule:∀(i j:Int) (t u:Tok) (s:Shared) (Q:Value→Shared→Prop) (E:Value→Shared→Prop),Q (.int (g i j) s.toks) { s with toks:=s.toks+1 }→wpAny (model X.prog X.w) X.A (f (.int i t) (.int j u)) Q E s):
  OpR X f (rI0 λi j=>.int (g i j)):=by
 intro pins s σ H x y v u Q I rx ry h;obtain ⟨i,j,rfl,rfl,q⟩:=h;obtain ⟨t,rfl⟩:=rx;obtain ⟨t',rfl⟩:=ry;exact rule i j t t' s _ _ ⟨.int (g i j),H,I.tok _,⟨_,rfl⟩,q⟩
theorem opB0 {f:Value→Value→Sem Value} {g:Int→Int→Bool}
  (rule:∀(i j:Int) (t u:Tok) (s:Shared) (Q:Value→Shared→Prop) (E:Value→Shared→Prop),Q (.bool (g i j)) s→wpAny (model X.prog X.w) X.A (f (.int i t) (.int j u)) Q E s):
  OpR X f (rI0 λi j=>.bl (g i j)):=by
 intro pins s σ H x y v u Q I rx ry h;obtain ⟨i,j,rfl,rfl,q⟩:=h;obtain ⟨t,rfl⟩:=rx;obtain ⟨t',rfl⟩:=ry;exact rule i j t t' s _ _ ⟨.bl (g i j),H,I,rfl,q⟩
def om (i j:Int):Prop:=0 < j∧j < 1073741824
def CPow (i j:Int):Prop:=0≤j∧j≤1000000∧i.natAbs < 2 ^ 64
def CMul (i j:Int):Prop:=(-(2 ^ 64) < i∧i < 2 ^ 64)∨(-(2 ^ 64) < j∧j < 2 ^ 64)
theorem CMul.ok {i j:Int} (h:CMul i j):IntMulOk i j:=by
 rcases h with ⟨h1,h2⟩ | ⟨h1,h2⟩
 ·exact .of_left (intBits_le_64 h1 h2)
 ·exact .of_right (intBits_le_64 h1 h2)
theorem op_add:OpR X (binaryOp .Add) (rI0 λi j=>.int (i+j)):=opI0 λ_ _ _ _ _ _ _ q=>add_int q
theorem op_sub:OpR X (binaryOp .Sub) (rI0 λi j=>.int (i - j)):=opI0 λ_ _ _ _ _ _ _ q=>sub_int q
theorem op_mul:OpR X (binaryOp .Mult) (rI CMul λi j=>.int (i*j)):=opI λ_ _ _ _ _ _ _ hc q=>mul_int q hc.ok
theorem Qc:OpR X (binaryOp .FloorDiv) (rI om λi j=>.int (i / j)):=opI λi j _ _ _ _ _ hc q=>by
 have h1:(0:Int) < j:=hc.1;have h2:j < 1073741824:=hc.2;exact floordiv_int (by omega) (by rw[Int.fdiv_eq_ediv_of_nonneg i (by omega)];exact q) (.inl (PyProof.noPylong_small (by omega)))
theorem op_mod:OpR X (binaryOp .Mod) (rI (λ_ j=>0 < j) λi j=>.int (i % j)):=opI λi j _ _ _ _ _ hc q=>by
 have h1:(0:Int) < j:=hc;exact mod_int' (by omega) (by rw[Int.fmod_eq_emod_of_nonneg i (by omega)];exact q)
theorem op_pow:OpR X (binaryOp .Pow) (rI CPow λi j=>.int (i ^ j.toNat)):=opI λ_ _ _ _ _ _ _ hc q=>pow_int_small hc.1 hc.2.1 hc.2.2 q
theorem unI {f:Value→Sem Value} {g:Int→Int}
  (rule:∀(i:Int) (t:Tok) (s:Shared) (Q:Value→Shared→Prop) (E:Value→Shared→Prop),Q (.int (g i) s.toks) { s with toks:=s.toks+1 }→wpAny (model X.prog X.w) X.A (f (.int i t)) Q E s):
  UnR X f (rU λi=>.int (g i)):=by
 intro pins s σ H x v Q I rx h;obtain ⟨i,rfl,q⟩:=h;obtain ⟨t,rfl⟩:=rx;exact rule i t s _ _ ⟨.int (g i),H,I.tok _,⟨_,rfl⟩,q⟩
theorem un_neg:UnR X (unaryOp .USub) (rU λi=>.int (-i)):=unI λ_ _ _ _ _ q=>neg_int q
end
noncomputable def scal:V→V→Bool
 | .non,.non=>true | .non,.int _=>true | .int _,.non=>true | .non,.bl _=>true | .bl _,.non=>true | .non,.str _=>true | .str _,.non=>true
 | .int _,.int _=>true | .bl _,.bl _=>true | .str _,.str _=>true | .byt _,.byt _=>true
 | .int _,.str _=>true | .str _,.int _=>true | .bl _,.str _=>true | .str _,.bl _=>true
 | _,_=>false
def rEq:R2:=λx y H Q=>scal x y=true∧Q (.bl (decide (x=y))) H
def rNe:R2:=λx y H Q=>scal x y=true∧Q (.bl (!decide (x=y))) H
theorem G3 {i j:Int}:decide (V.int i=V.int j)=(i==j):=by
 rw[ac4];simp
theorem Kk {i j:Bool}:decide (V.bl i=V.bl j)=(i==j):=by
 rw[ac4];simp
theorem Gy {i j:Str}:decide (V.str i=V.str j)=(i==j):=by
 rw[ac4];simp
theorem Fj {i j:Array UInt8}:decide (V.byt i=V.byt j)=(i.toList==j.toList):=by
 rw[ac4];cases i
 cases j
 simp
section
variable {X:Cx} {a b c:Expr} {ta tb tc:TE} {pos:Pos}
theorem bj {pins:List (Addr×Obj)} {σ:St} {H:Hp} {s:Shared} {Q:VK} {k k':Bool} (I:Inv X pins σ H s) (q:Q (.bl k) H) (e:k=k'):EP X pins σ Q (.bool k') s:=by
 subst e;exact ⟨.bl k,H,I,rfl,q⟩
theorem op_eq:OpR X (compareOp .Eq) rEq:=by
 intro pins s σ H x y v u Q I rx ry h;obtain ⟨hs,q⟩:=h;cases x with
 | non=>
  cases rx
  cases y with
  | non=>cases ry;exact PySem.EqNone.eq_none_none (bj I q (by simp))
  | bl j=>cases ry;exact PySem.EqNone.eq_none_bool (bj I q (by simp))
  | int j=>obtain ⟨t',rfl⟩:=ry;exact PySem.EqNone.eq_none_int (bj I q (by simp))
  | str j=>obtain ⟨t',rfl⟩:=ry;exact PySem.EqNone.eq_none_str (bj I q (by simp))
  | _=>exact absurd (show false=true from hs) aaj
 | bl i=>
  cases rx
  cases y with
  | non=>cases ry;exact PySem.EqNone.eq_bool_none (bj I q (by simp))
  | bl j=>cases ry;exact eq_bool (bj I q Kk)
  | str j=>obtain ⟨t',rfl⟩:=ry;exact PySem.EqMixed.eq_bool_str (bj I q (by simp))
  | _=>exact absurd (show false=true from hs) aaj
 | int i=>
  obtain ⟨t,rfl⟩:=rx;cases y with
  | non=>cases ry;exact PySem.EqNone.eq_int_none (bj I q (by simp))
  | int j=>obtain ⟨t',rfl⟩:=ry;exact eq_int (bj I q G3)
  | str j=>obtain ⟨t',rfl⟩:=ry;exact PySem.EqMixed.eq_int_str (bj I q (by simp))
  | _=>exact absurd (show false=true from hs) aaj
 | str i=>
  obtain ⟨t,rfl⟩:=rx;cases y with
  | non=>cases ry;exact PySem.EqNone.eq_str_none (bj I q (by simp))
  | bl j=>cases ry;exact PySem.EqMixed.eq_str_bool (bj I q (by simp))
  | int j=>obtain ⟨t',rfl⟩:=ry;exact PySem.EqMixed.eq_str_int (bj I q (by simp))
  | str j=>obtain ⟨t',rfl⟩:=ry;exact eq_str (bj I q Gy)
  | _=>exact absurd (show false=true from hs) aaj
 | byt i=>
  obtain ⟨t,rfl⟩:=rx;cases y with
  | byt j=>obtain ⟨t',rfl⟩:=ry;exact PySem.W.eq_bytes (bj I q Fj)
  | _=>exact absurd (show false=true from hs) aaj
 | _=>cases y <;> exact absurd (show false=true from hs) aaj
theorem Lx:OpR X (compareOp .NotEq) rNe:=by
 intro pins s σ H x y v u Q I rx ry h;obtain ⟨hs,q⟩:=h;cases x with
 | non=>
  cases rx
  cases y with
  | non=>cases ry;exact PySem.EqNone.ne_none_none (bj I q (by simp))
  | bl j=>cases ry;exact PySem.EqNone.ne_none_bool (bj I q (by simp))
  | int j=>obtain ⟨t',rfl⟩:=ry;exact PySem.EqNone.ne_none_int (bj I q (by simp))
  | str j=>obtain ⟨t',rfl⟩:=ry;exact PySem.EqNone.ne_none_str (bj I q (by simp))
  | _=>exact absurd (show false=true from hs) aaj
 | bl i=>
  cases rx
  cases y with
  | non=>cases ry;exact PySem.EqNone.ne_bool_none (bj I q (by simp))
  | bl j=>cases ry;exact ne_bool (bj I q (congrArg not Kk))
  | str j=>obtain ⟨t',rfl⟩:=ry;exact PySem.EqMixed.ne_bool_str (bj I q (by simp))
  | _=>exact absurd (show false=true from hs) aaj
 | int i=>
  obtain ⟨t,rfl⟩:=rx;cases y with
  | non=>cases ry;exact PySem.EqNone.ne_int_none (bj I q (by simp))
  | int j=>obtain ⟨t',rfl⟩:=ry;exact ne_int (bj I q (congrArg not G3))
  | str j=>obtain ⟨t',rfl⟩:=ry;exact PySem.EqMixed.ne_int_str (bj I q (by simp))
  | _=>exact absurd (show false=true from hs) aaj
 | str i=>
  obtain ⟨t,rfl⟩:=rx;cases y with
  | non=>cases ry;exact PySem.EqNone.ne_str_none (bj I q (by simp))
  | bl j=>cases ry;exact PySem.EqMixed.ne_str_bool (bj I q (by simp))
  | int j=>obtain ⟨t',rfl⟩:=ry;exact PySem.EqMixed.ne_str_int (bj I q (by simp))
  | str j=>obtain ⟨t',rfl⟩:=ry;exact ne_str (bj I q (congrArg not Gy))
  | _=>exact absurd (show false=true from hs) aaj
 | byt i=>
  obtain ⟨t,rfl⟩:=rx;cases y with
  | byt j=>obtain ⟨t',rfl⟩:=ry;exact PySem.W.ne_bytes (bj I q (congrArg not Fj))
  | _=>exact absurd (show false=true from hs) aaj
 | _=>cases y <;> exact absurd (show false=true from hs) aaj
theorem op_lt:OpR X (compareOp .Lt) (rI0 λi j=>.bl (decide (i < j))):=opB0 λ_ _ _ _ _ _ _ q=>lt_int q
theorem op_gt:OpR X (compareOp .Gt) (rI0 λi j=>.bl (decide (j < i))):=opB0 λ_ _ _ _ _ _ _ q=>gt_int q
theorem nomark (b:Expr) {op:CmpOp} (h:op≠.In:=by decide) (h2:op≠.NotIn:=by decide):behindInMarks op b=false:=by
 have e1:(op==CmpOp.In)=false:=by cases op <;> first | rfl | exact absurd rfl h
 have e2:(op==CmpOp.NotIn)=false:=by cases op <;> first | rfl | exact absurd rfl h2
 cases b <;> simp[behindInMarks,e1,e2]
theorem y4 {op:CmpOp} {r:R2} (ho:OpR X (compareOp op) r) (ha:PE X a ta) (hb:PE X b tb) (hm:behindInMarks op b=false):PE X (.Compare a [op] [b] pos) (tOp r ta tb):=by
 intro pins s σ H Q I h;exact wpAny_Compare1 (binT ha hb I h λv u s2 x y H2 I2 rx ry q=>ho pins s2 σ H2 x y v u Q I2 rx ry q) hm
def Cv (t:TE):TT:=λσ H Q=>t σ H λx H'=>∃k,x=.bl k∧Q k H'
theorem Oi {op:CmpOp} {r:R2} (ho:OpR X (compareOp op) r) (ha:PE X a ta) (hb:PE X b tb) (hm:behindInMarks op b=false):PT X (.Compare a [op] [b] pos) (Cv (tOp r ta tb)):=by
 intro pins s σ H Q I h;refine wpAny_isTrue_Compare1 (thn (ha pins s σ H _ I h) λv s1 ⟨x,H1,I1,r1,q1⟩=>thn (hb pins s1 σ H1 _ I1 q1) λu s2 ⟨y,H2,I2,r2,q2⟩=>
  thn (ho pins s2 σ H2 x y v u _ I2 r1 r2 q2) λc s3 ⟨z,H3,I3,r3,k,e,q3⟩=>?_) hm
 subst e;cases r3
 exact wpAny_truthy_bool ⟨H3,I3,q3⟩
theorem ug:(sizeLine:Nat) < 2 ^ 63:=by rw[sizeLine_eq];decide
theorem Dv:OpR X (binaryOp .Add) (λx y H Q=>∃i j,x=.str i∧y=.str j∧i.length+j.length≤sizeLine∧Q (.str (i++j)) H):=by
 intro pins s σ H x y v u Q I rx ry h;obtain ⟨i,j,rfl,rfl,hz,q⟩:=h;obtain ⟨t,rfl⟩:=rx;obtain ⟨t',rfl⟩:=ry;exact add_str (λt' tk=>⟨.str (i++j),H,I.tok _,⟨_,rfl⟩,q⟩) hz
theorem vals1 {x:V} {us:List Value} (r:Vals [x] us):∃u,us=[u]∧RelV x u:=by
 cases r with
 | cons r1 r2=>cases r2;exact ⟨_,rfl,r1⟩
theorem vals2 {x y:V} {us:List Value} (r:Vals [x,y] us):∃u w',us=[u,w']∧RelV x u∧RelV y w':=by
 cases r with
 | cons r1 r2=>
  cases r2 with
  | cons r3 r4=>cases r4;exact ⟨_,_,rfl,r1,r3⟩
theorem Iu:jn X (.type "int") (λxs H Q=>(∃i,xs=[.int i]∧Q (.int i) H)∨∃k,xs=[.bl k]∧Q (.int (if k then 1 else 0)) H):=by
 intro pins s σ H xs us Q I r h;rcases h with ⟨i,rfl,q⟩ | ⟨k,rfl,q⟩
 ·obtain ⟨u,rfl,t,rfl⟩:=vals1 r;exact call_int_int ⟨.int i,H,I,⟨_,rfl⟩,q⟩
 ·obtain ⟨u,rfl,r1⟩:=vals1 r;cases r1
  exact call_int_bool ⟨.int (if k then 1 else 0),H,I.tok _,⟨_,rfl⟩,q⟩
end
structure ObjM (h:Heap) (x dx C:Addr) (mA:Str→Option Value):Prop where
 obj:h.get? x=some (PySem.W.instObj C dx)
 ns:h.Ns1 dx mA
 ne:dx≠x
theorem Hw {h:Heap} {dx:Addr} {mA:Str→Option Value} (n:h.Ns1 dx mA):∃od,h.get? dx=some od∧∀name,PySem.W.lookIn name od=some (mA name):=by
 obtain ⟨o,es,ep,ho,hd,hk,_,hm⟩:=n;refine ⟨o,ho,λname=>?_⟩;have e:=hm name;unfold nsFind findBy at e;rw[←Array.find?_toList] at e;unfold PySem.W.lookIn;rw[hd];dsimp only;split
 ·rename_i y q
  rw[q] at e;exact congrArg some e
 ·rename_i q
  rw[q] at e;have a:es.toList.any (·.refKey)=false:=by
   rw[List.any_eq_false];intro y hy;obtain ⟨z,t,hkey⟩:=hk y (Array.mem_toList_iff.mp hy);simp[DictEntry.refKey,hkey]
  have a':¬es.toList.any (·.refKey)=true:=by rw[a];exact aaj
  rw[if_neg a'];exact congrArg some e
theorem ObjM.look {h:Heap} {x dx C:Addr} {mA:Str→Option Value} (I:ObjM h x dx C mA):∃od,PySem.W.InstAt h x (PySem.W.instObj C dx) C (some od)∧∀name,PySem.W.lookIn name od=some (mA name):=
 let ⟨od,ho,hl⟩:=Hw I.ns
 ⟨od,⟨I.obj,rfl,rfl,ho⟩,hl⟩
theorem mh.some_of {v:V} {o:Option Value} (r:mh (some v) o):∃u,o=some u∧RelV v u:=by
 cases o with
 | none=>exact (show False from r).elim
 | some u=>exact ⟨u,rfl,r⟩
section
variable {P:Program} {w:World} {H H':Hp} {h h':Heap} {a C dx:Addr} {fs fs':List (Str×V)}
theorem Qv (hok:HOk P w H h) (e:H a=some (.ins C dx fs)):∃mA,ObjM h a dx C mA∧(∀f,mh (fs.lookup f) (mA f))∧PySem.Within mA (fs.map (·.1))∧fs.length≤1000∧H dx=some (.own a):=by
 obtain ⟨d,z,ne,ob,mA,n,r,q⟩:=(show b7 P w H h a (.ins C dx fs) from hok a _ e);exact ⟨mA,⟨ob,n,ne⟩,r,q,z,d⟩
end
structure Cls (K:PySem.W.Frag) (C:Addr):Prop where
 pg:PySem.W.plainGet K C Str.empty=true
 hd:PySem.W.hasDictIn K C=true
 po:PySem.W.plainOver K C=true
 sa:PySem.W.findIn K (.ref C) "__setattr__"=some (some (.builtin "object.__setattr__"))
theorem Cls.get {K:PySem.W.Frag} {C:Addr} (c:Cls K C) (f:Str):PySem.W.plainGet K C f=true:=c.pg
section
variable {X:Cx} {pins:List (Addr×Obj)} {σ:St} {H:Hp} {s:Shared} {A:Around} {E:Value→Shared→Prop} {Q:Value→Shared→Prop} {c:Value} {b:Bool}
inductive qc (K:PySem.W.Frag) (H:Hp):V→Value→Prop where
 | non:qc K H .non (.type "NoneType")
 | bl (x:Bool):qc K H (.bl x) (.type "bool")
 | int (i:Int):qc K H (.int i) (.type "int")
 | str (x:Str):qc K H (.str x) (.type "str")
 | flt (x:UInt64):qc K H (.flt x) (.type "float")
 | lst {a:Addr} {xs:List V} (e:H a=some (.lst xs)):qc K H (.ref a) (.type "list")
 | frz {a:Addr} {o:Obj} {xs:List V} (e:H a=some (.frz o (.lst xs))):qc K H (.ref a) (.type "list")
 | tup {a:Addr} {xs:List V} (e:H a=some (.tup xs)):qc K H (.ref a) (.type "tuple")
 | dK {a:Addr} {kvs:List (Key×V)} (e:H a=some (.dK kvs)):qc K H (.ref a) (.type "dict")
 | dT {a:Addr} {kvs:List (List Key×V)} (e:H a=some (.dT kvs)):qc K H (.ref a) (.type "dict")
 | ins {a C dx:Addr} {fs:List (Str×V)} (e:H a=some (.ins C dx fs)) (cl:Cls K C) (ha:PySem.W.findIn K (.ref C) "__class__"=some (some (.builtin "object.__class__")))
   (hn:PySem.W.specialIn K (.builtin "object.__class__") "__get__"=some (some (.builtin "getset_descriptor.__get__"))) (htk:PySem.W.takesIn K (.builtin "object.__class__")=some true)
   (hm:PySem.W.mroIn K C (.type "object")=some true):qc K H (.ref a) (.ref C)
theorem Hk {x:V} {u t:Value} (I:Inv X pins σ H s) (rx:RelV x u) (ty:qc X.K H x t) (e:PySem.W.kitOne X.K t c=some b) (h:∀tk,Q (.bool b) { s with toks:=tk }):
  wpAny (model X.prog X.w) A (call (.builtin "isinstance") [u,c]) Q E s:=by
 cases ty with
 | non=>cases (show u=Value.none from rx);exact PySem.W.kia_one PySem.W.kitx_none I.kIn True.intro e (λz=>nomatch z) h
 | bl y=>cases (show u=Value.bool y from rx);exact PySem.W.kia_one PySem.W.kitx_bool I.kIn True.intro e (λz=>nomatch z) h
 | int i=>obtain ⟨t,q⟩:=(show ∃t,u=Value.int i t from rx);cases q;exact PySem.W.kia_one PySem.W.kitx_int I.kIn True.intro e (λz=>nomatch z) h
 | str y=>obtain ⟨t,q⟩:=(show ∃t,u=Value.str y t from rx);cases q;exact PySem.W.kia_one PySem.W.kitx_str I.kIn True.intro e (λz=>nomatch z) h
 | flt y=>obtain ⟨t,q⟩:=(show ∃t,u=Value.float y t from rx);cases q;exact PySem.W.kia_one PySem.W.kitx_float I.kIn True.intro e (λz=>nomatch z) h
 | @lst a xs ea=>
  cases (show u=Value.ref a from rx)
  obtain ⟨_,_,n,_,h1⟩:=(show b7 X.prog X.w H s.heap a (.lst xs) from I.hok a _ ea);exact PySem.W.kia_one PySem.W.kitx_list I.kIn ⟨_,h1,rfl⟩ e (λz=>nomatch z) h
 | @frz a ob xs ea=>
  cases (show u=Value.ref a from rx)
  obtain ⟨_,_,_,n,_,h1⟩:=(show b7 X.prog X.w H s.heap a (.frz ob (.lst xs)) from I.hok a _ ea);exact PySem.W.kia_one PySem.W.kitx_list I.kIn ⟨_,h1,rfl⟩ e (λz=>nomatch z) h
 | @tup a xs ea=>
  cases (show u=Value.ref a from rx)
  obtain ⟨_,_,_,p⟩:=(show b7 X.prog X.w H s.heap a (.tup xs) from I.hok a _ ea);obtain ⟨o,h1,h2,_⟩:=p;exact PySem.W.kia_one PySem.W.kitx_tuple I.kIn ⟨o,h1,h2⟩ e (λz=>nomatch z) h
 | @dK a kvs ea=>
  cases (show u=Value.ref a from rx)
  obtain ⟨_,_,vs,_,p⟩:=(show b7 X.prog X.w H s.heap a (.dK kvs) from I.hok a _ ea);obtain ⟨o,es,ep,h1,h2,_⟩:=p;exact PySem.W.kia_one PySem.W.kitx_dict I.kIn ⟨o,h1,h2.1⟩ e (λz=>nomatch z) h
 | @dT a kvs ea=>
  cases (show u=Value.ref a from rx)
  obtain ⟨_,_,xs,_,o,es,ep,h1,h2,_⟩:=(show b7 X.prog X.w H s.heap a (.dT kvs) from I.hok a _ ea);exact PySem.W.kia_one PySem.W.kitx_dict I.kIn ⟨o,h1,h2.1⟩ e (λz=>nomatch z) h
 | @ins a C dx fs ea cl ha hn htk hm=>
  cases (show u=Value.ref a from rx)
  obtain ⟨mA,O,_⟩:=Qv I.hok ea;obtain ⟨od,J,_⟩:=O.look;exact PySem.W.kia_one (PySem.W.kitx_own (cl.get _) cl.hd ha hn htk hm) I.kIn J e (λz=>nomatch z) h
end
structure fm (k:Nat) (A:Around):Prop where
 hd:A.handled=none
 dp:A.depth+k+5 < recursionLimit
 un:A.units+16*k+200 < cLine
theorem fm.mono {j k:Nat} {A:Around} (r:fm k A) (h:j≤k):fm j A:=⟨r.hd,by have:=r.dp;omega,by have:=r.un;omega⟩
theorem fm.deeper {k:Nat} {A:Around} (r:fm (k+1) A) (env:Env):fm k (A.deeper env):=
 ⟨r.hd,by have:=r.dp;show A.depth+1+k+5 < _;omega,by have:=r.un;show A.units+3+16*k+200 < _;omega⟩
theorem fm.depth {k:Nat} {A:Around} (r:fm k A):A.depth < recursionLimit:=by have:=r.dp;omega
theorem fm.units {k:Nat} {A:Around} (r:fm k A):A.units+64 < cLine:=by have:=r.un;omega
def tNil:TA:=λ_ H Q=>Q [] H
def B2 (ta:TE) (tr:TA):TA:=λσ H Q=>ta σ H λx H1=>tr σ H1 λxs H2=>Q (x::xs) H2
section
variable {X:Cx} {e:Expr} {es:List Expr} {te:TE} {t:TA} {pos:Pos}
theorem Mo:PA X [] tNil:=λ_ _ _ _ H Q I h=>Calls.spliced_nil ⟨[],H,I,.nil,h⟩
theorem y8 (ha:PE X e te) (hr:PA X es t) (hs:starEach (e::es) X.env=(false,eval e X.env)::starEach es X.env:=by rfl):PA X (e::es) (B2 te t):=by
 intro pos pins s σ H Q I h;rw[hs];show wpAny _ _ (spliced ((false,eval e X.env)::backTo pos (starEach es X.env))) _ _ s
 refine Calls.spliced_cons (thn (ha pins s σ H _ I h) λu s1 ⟨x,H1,I1,r1,q1⟩=>?_);exact thn (hr pos pins s1 σ H1 _ I1 q1) λus s2 ⟨xs,H2,I2,r2,q2⟩=>⟨x::xs,H2,I2,.cons r1 r2,q2⟩
def tTup (t:TA):TE:=λσ H Q=>t σ H λxs H1=>xs.length≤sizeLine∧∀p,H1 p=none→Q (.ref p) (upd H1 p (.tup xs))
def tLst (t:TA):TE:=λσ H Q=>t σ H λxs H1=>xs.length≤sizeLine∧∀p,H1 p=none→Q (.ref p) (upd H1 p (.lst xs))
theorem pe_tup {x1} (h:PA X es t):PE X (.Tuple es x1 pos) (tTup t):=by
 intro pins s σ H Q I hq;refine wpAny_Tuple_spliced (thn (h pos pins s σ H _ I hq) λus s1 ⟨xs,H1,I1,r,z,q⟩=>⟨by rw[←r.length];exact z,?_⟩);have hf:H1 s1.heap.objs.size=none:=I1.hok.fresh (aa4 _);refine ⟨.ref s1.heap.objs.size,upd H1 s1.heap.objs.size (.tup xs),I1.laid (t':=s1.toks) (λb u e=>Heap.get?_push_of_some _ e) (aa4 _) ?_,rfl,q _ hf⟩;exact ⟨z,us,r,⟨_,Heap.get?_push_size _ rfl,rfl,_,rfl,rfl⟩⟩
theorem pe_lst (h:PA X es t):PE X (.List es pos) (tLst t):=by
 intro pins s σ H Q I hq;refine wpAny_List_spliced (thn (h pos pins s σ H _ I hq) λus s1 ⟨xs,H1,I1,r,z,q⟩=>⟨by rw[←r.length];exact z,?_⟩);have hf:H1 s1.heap.objs.size=none:=I1.hok.fresh (aa4 _);refine ⟨.ref s1.heap.objs.size,upd H1 s1.heap.objs.size (.lst xs),I1.laid (t':=s1.toks) (λb u e=>Heap.get?_push_of_some _ e) (aa4 _) ?_,rfl,q _ hf⟩;exact ⟨z,us,0,r,Heap.get?_push_size _ rfl⟩
end
abbrev Sp:=List V→Hp→VK→XK→Prop
abbrev CXT:=List Env→Hp→Shared→XK→Value→Shared→Prop
structure Env0 (P:Program) (w:World) (K:PySem.W.Frag) (mg:Str→Option Value) (base:Heap) (A:Around) (outer:List Env) (s:Shared) (H:Hp):Prop where
 frames:A.frames=some outer
 mod:Mod K mg base
 bs:∀b o,base.get? b=some o→s.heap.get? b=some o∧H b=none
 bsz:base.objs.size≤s.heap.objs.size
 o8:s.heap.FunFrames base outer
 frf:∀b∈frs outer,H b=none
 hok:HOk P w H s.heap
 bare:AllBare s.gens
def CE (outer:List Env) (P:Program) (w:World) (H:Hp) (s:Shared) (Q:VK) (u:Value) (s':Shared):Prop:=
 ∃v H',s'.os=s.os∧AllBare s'.gens∧Un (frs outer) [] H H' s.heap s'.heap∧HOk P w H' s'.heap∧RelV v u∧Q v H'
def CR (CX:CXT) (outer:List Env) (P:Program) (w:World) (H:Hp) (s:Shared) (Q:VK) (E:XK) (r:Result) (s':Shared):Prop:=
 match r with
 | .ok (.ret u)=>CE outer P w H s Q u s'
 | .ok _=>False
 | .error e=>CX outer H s E e s'
structure l9 (P:Program) (w:World) (K:PySem.W.Frag) (mg:Str→Option Value) (base:Heap) (CX:CXT) (k:Nat) (f:Addr) (fd:FuncData) (ps:List Str) (sp:Sp):Prop where
 len:∀vs H Q E,sp vs H Q E→vs.length=ps.length
 run:∀(A:Around) (outer:List Env) (s:Shared) (H:Hp) (args:Args) (us:List Value) (vs:List V) (Q:VK) (E:XK),fm k A→Env0 P w K mg base A outer s H→BindsTo s fd args (ps.zip us)→Vals vs us→sp vs H Q E→
  codeAny (model P w) A (.call (.ref f) args) (CR CX outer P w H s Q E) s
theorem l9.mono {P:Program} {w:World} {K:PySem.W.Frag} {mg:Str→Option Value} {base:Heap} {CX:CXT} {j k:Nat} {f:Addr} {fd:FuncData} {ps:List Str} {sp:Sp} (F:l9 P w K mg base CX j f fd ps sp) (h:j≤k):
  l9 P w K mg base CX k f fd ps sp:=⟨F.len,λA outer s H args us vs Q E hr=>F.run A outer s H args us vs Q E (hr.mono h)⟩
section
variable {X:Cx} {pins:List (Addr×Obj)} {σ:St} {H:Hp} {s s':Shared}
theorem Inv.iy (I:Inv X pins σ H s):Env0 X.prog X.w X.K X.mg X.base X.A X.stack s H:=
 ⟨I.ok.frames,I.ok.mod,I.bs,aar I.ok.bsz I.sz,I.stack,I.zq,I.hok,I.bare⟩
theorem Inv.after {Q:VK} {u:Value} (I:Inv X pins σ H s) (h:CE X.stack X.prog X.w H s Q u s'):EP X pins σ Q u s':=by
 obtain ⟨v,H',os,bare,un,hok,r,q⟩:=h;obtain ⟨hh,g,d,t,os'⟩:=s';obtain rfl:os'=s.os:=os;exact ⟨v,H',I.call (h':=hh) (g':=g) (d':=d) (t':=t) (ch:=[]) un hok bare (λb z=>absurd z (by simp)),r,q⟩
end
def Az (sp:Sp) (dvs:List V) (E:XK) (t:TA):TE:=λσ H Q=>t σ H λvs H1=>sp (vs++dvs) H1 Q E
def Binds (K:PySem.W.Frag) (fd:FuncData) (ps:List Str) (ds:List Value):Prop:=
 ∀(s:Shared) (us:List Value),K.In s.heap→(us++ds).length=ps.length→BindsTo s fd ⟨us,[]⟩ (ps.zip (us++ds))
theorem Binds.all {K:PySem.W.Frag} {fd:FuncData} {ps:List Str} (h:∀us:List Value,us.length=ps.length→bindArgs fd ⟨us,[]⟩=pure (ps.zip us)):Binds K fd ps []:=λs us _ hl=>by
 rw[ab3] at hl ⊢;exact .of_eq (h us hl)
def Passes (CX:CXT) (X:Cx) (E:XK):Prop:=∀(pins:List (Addr×Obj)) (σ:St) (H:Hp) (s:Shared) (e:Value) (s':Shared),Inv X pins σ H s→CX X.stack H s E e s'→X.xe e s'
section
variable {X:Cx} {CX:CXT} {k:Nat} {f C:Addr} {fd:FuncData} {ps:List Str} {sp:Sp} {dvs:List V} {ds:List Value} {E:XK} {x m:Str} {p pos apos:Pos} {e o:Expr} {es:List Expr} {ta:TE} {t:TA}
theorem run_fn {pins:List (Addr×Obj)} {σ:St} {H:Hp} {s:Shared} {Q:VK} {us:List Value} {vs:List V} (F:l9 X.prog X.w X.K X.mg X.base CX k f fd ps sp) (hr:fm k X.A) (hb:Binds X.K fd ps ds) (hd:Vals dvs ds) (hx:Passes CX X E)
  (I:Inv X pins σ H s) (r:Vals vs us) (h:sp (vs++dvs) H Q E):wpAny (model X.prog X.w) X.A (call (.ref f) us) (EP X pins σ Q) X.xe s:=by
 have r2:Vals (vs++dvs) (us++ds):=r.append hd;have hl:(us++ds).length=ps.length:=by rw[←r2.length];exact F.len _ _ _ _ h
 refine wpAny_call (codeAny_mono (F.run X.A X.stack s H ⟨us,[]⟩ (us++ds) (vs++dvs) Q E hr I.iy (hb s us I.kIn hl) r2 h) λr s' hq=>?_);cases r with
 | error e=>exact hx pins σ H s e s' I hq
 | ok fl=>
  cases fl with
  | ret u=>exact I.after hq
  | next=>exact False.elim hq
  | brk=>exact False.elim hq
  | cont=>exact False.elim hq
theorem Af (F:l9 X.prog X.w X.K X.mg X.base CX k f fd ps sp) (hr:fm k X.A) (hg:Gl X x) (hm:X.mg x=some (.ref f)) (hk:PySem.W.keepIn X.K (.ref f)=true) (hb:Binds X.K fd ps ds) (hd:Vals dvs ds) (hx:Passes CX X E)
  (ha:PA X (e::es) t) (hdb:(x==("__debug__":Str))=false:=by decide) (he:starEach (e::es) X.env=(false,eval e X.env)::starEach es X.env:=by rfl) (hpl:(backTo pos (starEach es X.env)).any (·.1)=false:=by rfl):
  PE X (.Call (.Name x p) (e::es) [] pos) (Az sp dvs E t):=by
 intro pins s σ H Q I h;refine wpAny_Call_Name_kw (nq I hg hm ?_ hdb);refine PySem.W.callWith_K (h₀:=X.base) I.ok.mod.kin hk (thn (ha pos pins s σ H _ I h) λus s1 ⟨vs,H1,I1,r,q⟩=>⟨I1.kIn,?_⟩) he hpl;exact run_fn F hr hb hd hx I1 r q
end
structure av (N P:List Str) (sc:Scope):Prop where
 kind:sc.kind=.function
 co:sc.isCoroutine=false
 gen:sc.isGenerator=false
 nd:N.Nodup
 pre:N.take P.length=P
 par:∀x∈P,sc.names.lookup x=some .local∨sc.names.lookup x=some .cell
 nofree:∀y∈sc.names,y.2≠.free
theorem xj {kindOf:Str→Option NameKind} {x:Str}:∀{binds:List (Str×Value)} {m:Str→Option Value},(∀v,(x,v)∉binds)→bindL kindOf binds m x=m x
 | [],_,_=>rfl
 | (n,v)::r,m,h=>by
  unfold bindL;rw[xj λw hw=>h w (aab _ hw)];split
  ·have:x≠n:=by rintro rfl;exact h v aa9
   simp[this]
  ·rfl
theorem xr {kindOf:Str→Option NameKind} {x:Str}:∀{binds:List (Str×Value)} {m:Str→Option Value},(∀v,(x,v)∉binds)→bindC kindOf binds m x=m x
 | [],_,_=>rfl
 | (n,v)::r,m,h=>by
  unfold bindC;rw[xr λw hw=>h w (aab _ hw)];split
  ·rfl
  ·have:x≠n:=by rintro rfl;exact h v aa9
   simp[this]
theorem x8 {kindOf:Str→Option NameKind} {x:Str} {v:Value}:∀{P:List Str} {vs:List Value} {i:Nat} {m:Str→Option Value},P.Nodup→P[i]?=some x→vs[i]?=some v→kindOf x=some .local→
  bindL kindOf (P.zip vs) m x=some v
 | [],_,_,_,_,h,_,_=>by simp at h
 | _::_,[],_,_,_,_,h,_=>by simp at h
 | p::P,w::vs,0,m,nd,h1,h2,hk=>by
  simp at h1 h2;subst h1;subst h2;show bindL kindOf ((p,w)::P.zip vs) m p=_
  unfold bindL;rw[xj λv hv=>(List.nodup_cons.mp nd).1 (acr hv).1,if_pos hk];simp
 | p::P,w::vs,i+1,m,nd,h1,h2,hk=>by
  show bindL kindOf ((p,w)::P.zip vs) m x=_
  unfold bindL;exact x8 (i:=i) (List.nodup_cons.mp nd).2 (by simpa using h1) (by simpa using h2) hk
theorem xg {kindOf:Str→Option NameKind} {x:Str} {v:Value}:∀{P:List Str} {vs:List Value} {i:Nat} {m:Str→Option Value},P.Nodup→P[i]?=some x→vs[i]?=some v→kindOf x≠some .local→
  bindC kindOf (P.zip vs) m x=some v
 | [],_,_,_,_,h,_,_=>by simp at h
 | _::_,[],_,_,_,_,h,_=>by simp at h
 | p::P,w::vs,0,m,nd,h1,h2,hk=>by
  simp at h1 h2;subst h1;subst h2;show bindC kindOf ((p,w)::P.zip vs) m p=_
  unfold bindC;rw[xr λv hv=>(List.nodup_cons.mp nd).1 (acr hv).1,if_neg hk];simp
 | p::P,w::vs,i+1,m,nd,h1,h2,hk=>by
  show bindC kindOf ((p,w)::P.zip vs) m x=_
  unfold bindC;exact xg (i:=i) (List.nodup_cons.mp nd).2 (by simpa using h1) (by simpa using h2) hk
noncomputable def start (N:List Str) (vs:List V):St:=vs.map some++aak (N.length - vs.length) none
noncomputable def ma (CX:CXT) (P:Program) (w:World) (K:PySem.W.Frag) (mg:Str→Option Value) (base:Heap) (N:List Str) (qual:Str) (scope:Scope) (f:Addr) (cd:Value) (A:Around) (outer:List Env) (s:Shared) (H:Hp) (E:XK):Cx where
 prog:=P
 w:=w
 K:=K
 mg:=mg
 base:=base
 A:=A.deeper (envOfC qual scope s.heap.objs.size f cd)
 N:=N
 s₀:=s
 H₀:=H
 env:=envOfC qual scope s.heap.objs.size f cd
 outer:=outer
 stack:=envOfC qual scope s.heap.objs.size f cd::outer
 ex:=[]
 calm:=true
 fn:=λ_=>true
 pn:=[]
 xe:=λe s'=>wpAny (model P w) (A.deeper (envOfC qual scope s.heap.objs.size f cd)) (leaving (envOfC qual scope s.heap.objs.size f cd) e) (λ_ s''=>CX outer H s E e s'') (λe' s''=>CX outer H s E e' s'') s'
theorem Cw {sc:Scope} {n:Nat} {x:Str} (h:sc.names.lookup x=some .cell):∃c,(cellsFrom n sc.names []).lookup x=some c:=by
 have q:=PySem.W.cellsFrom_some sc.names n [] (.inl h);exact Option.isSome_iff_exists.mp q
theorem Hl {CX:CXT} {P:Program} {w:World} {K:PySem.W.Frag} {mg:Str→Option Value} {base:Heap} {N ps:List Str} {qual:Str} {scope:Scope} {f:Addr} {cd:Value} {A:Around} {outer:List Env} {s s1:Shared} {H:Hp} {E:XK} {us:List Value} {vs:List V}
  (S:av N ps scope) (hd:A.handled=none) (e0:Env0 P w K mg base A outer s H) (hl:vs.length=ps.length) (r:Vals vs us)
  (x:InCallC s s.heap.objs.size (bindL (envOfC qual scope s.heap.objs.size f cd).kindOf (ps.zip us) λ_=>none) (cellsFrom (s.heap.objs.size+1) scope.names []) (bindC (envOfC qual scope s.heap.objs.size f cd).kindOf (ps.zip us) λ_=>none) s1):
  Inv (ma CX P w K mg base N qual scope f cd A outer s H E) [] (start N vs) H s1:=by
 have hpl:ps.length≤N.length:=by have:=congrArg ad7 S.pre;rw[aav] at this;omega
 obtain ⟨h1,tk,rfl,hk⟩:=x.done;have noA:∀b:Addr,b∉(ma CX P w K mg base N qual scope f cd A outer s H E).ex:=λb z=>absurd (show b∈([]:List Addr) from z) (by simp);refine ⟨⟨e0.mod,S.kind,rfl,rfl,aa4 _,λy z c h1 h2=>?_,λy hy=>?_,λy c _ h=>?_,λ_=>hd,Around.frames_deeper e0.frames,.inr ⟨rfl,rfl⟩,λb z=>absurd z (noA b),e0.bs,e0.bsz,λb _ _=>noA b,λb z=>absurd z (noA b),e0.o8,e0.frf⟩,
  rfl,e0.bare,Un.kept hk,⟨_,x.toInCall.ns,λi y v h1 h2 h3=>?_⟩,λy c h=>⟨_,x.cell y c h⟩,e0.hok.fresh (aa4 _),λy c h=>?_,λp hp=>absurd (show p∈([]:List (Addr×Obj)) from hp) (by simp),e0.hok.kept hk,?_⟩
 ·exact name_of_addr x.apart (PySem.mem_of_lookup h1) (PySem.mem_of_lookup h2)
 ·have hy:scope.names.lookup y=some .cell∨scope.names.lookup y=some .free:=hy;rcases hy with hy | hy
  ·exact Cw hy
  ·exact absurd rfl (S.nofree _ (PySem.mem_of_lookup hy))
 ·exact abu (x.above y c (PySem.mem_of_lookup h))
 ·have hi:i < vs.length:=by
   unfold start at h2;by_cases hi:i < vs.length
   ·exact hi
   ·rw[aad (by simpa using hi)] at h2;rw[ae5] at h2;split at h2 <;> cases h2
  have ha:vs[i]?=some v:=by
   unfold start at h2;rw[aag (by simpa using hi),aaa] at h2;cases e:vs[i]? with
   | none=>rw[e] at h2;cases h2
   | some a=>rw[e] at h2;cases h2;rfl
  obtain ⟨u,hu,rv⟩:=r.get ha;have hp:ps[i]?=some y:=by
   rw[←S.pre,acb (by omega)];exact h1
  have ndP:ps.Nodup:=by rw[←S.pre];exact S.nd.sublist (ad4 _ _)
  refine ⟨u,rv,?_⟩;rcases S.par y (aaf hp) with k | k
  ·exact .inl ⟨k,x8 ndP hp hu k⟩
  ·obtain ⟨c,e⟩:=Cw (n:=s.heap.objs.size+1) k;refine .inr ⟨.inl k,c,e,?_⟩;have q:=x.cell y c e;rw[xg ndP hp hu (by show scope.names.lookup y≠_;rw[k];decide)] at q;exact q
 ·exact e0.hok.fresh (abu (x.above y c (PySem.mem_of_lookup h)))
 ·unfold start;show _=N.length
  rw[aa2,aa1,abb];omega
theorem fn_of {CX:CXT} {P:Program} {w:World} {K:PySem.W.Frag} {mg:Str→Option Value} {base:Heap} {k:Nat} {f:Addr} {name qual:Str} {params:Arguments} {body:List Stmt} {scope:Scope} {dV kV doc pm cdv ct oc:Value} {an od:Option Addr}
  {osl:Array (Option Value)} {N ps:List Str} {sp:Sp} (lk:K.lookup f=some ⟨oc,od,.func (PySem.W.fnOf name qual params body scope dV kV doc pm an cdv ct),osl⟩) (hcd:PySem.W.codeIn K cdv qual=true) (S:av N ps scope)
  (len:∀vs H Q E,sp vs H Q E→vs.length=ps.length)
  (hbody:∀(A:Around) (outer:List Env) (s:Shared) (H:Hp) (vs:List V) (Q:VK) (E:XK),fm k (A.deeper (envOfC qual scope s.heap.objs.size f cdv))→sp vs H Q E→
   ∃t,PSs (ma CX P w K mg base N qual scope f cdv A outer s H E) body t∧t { nx:=λ_ H'=>Q .non H',rt:=Q } (start N vs) H):
  l9 P w K mg base CX (k+1) f (PySem.W.fnOf name qual params body scope dV kV doc pm an cdv ct) ps sp:=by
 refine ⟨len,λA outer s H args us vs Q E hr e0 hb r hsp=>?_⟩;have hl:=len _ _ _ _ hsp;have KX:K.In s.heap:=e0.mod.kin.keeps λb o e=>(e0.bs b o e).1;have lim:s.heap.NoLimit:=e0.mod.nolimit.keeps λb o e=>(e0.bs b o e).1;have hkind:∀y∈ps.zip us,scope.names.lookup y.1=some .local∨(scope.names.lookup y.1=some .cell∧((cellsFrom (s.heap.objs.size+1) scope.names []).lookup y.1).isSome=true):=λ⟨n,v⟩ hy=>by
  rcases S.par n (acr hy).1 with q | q
  ·exact .inl q
  ·exact .inr ⟨q,PySem.W.cellsFrom_some _ _ _ (.inl q)⟩
 refine codeAny_call_function hr.depth (KX _ _ lk) rfl S.co S.gen rfl (PySem.W.codeRec_of KX hcd) (hb _ _ _ _ ?_);refine wpAny_newFunctionEnv_cells S.kind hkind λenv he s1 x=>?_;subst he;refine ⟨lim.keeps x.toInCall.keep,codeAny_func ?_⟩;obtain ⟨t,ht,hq⟩:=hbody A outer s H vs Q E (hr.deeper _) hsp;have I:Inv (ma CX P w K mg base N qual scope f cdv A outer s H E) [] (start N vs) H s1:=Hl S hr.hd e0 hl r x;refine wpAny_mono (ht [] s1 (start N vs) H _ I hq) (λfl s' hs=>?_) λe s' hs=>hs;have fin:∀{σ':St} {H':Hp} {v:V} {u:Value},Inv (ma CX P w K mg base N qual scope f cdv A outer s H E) [] σ' H' s'→RelV v u→Q v H'→CE outer P w H s Q u s':=
  λ{σ' H' v u} J rv q=>⟨v,H',J.os,J.bare,J.base,J.hok,rv,q⟩
 cases fl with
 | ret u=>
  obtain ⟨v,σ',H',J,rv,q⟩:=hs;exact fin J rv q
 | next=>
  obtain ⟨σ',H',J,q⟩:=hs;exact fin (v:=V.non) (u:=Value.none) J rfl q
 | brk=>
  obtain ⟨_,_,_,q⟩:=hs;exact False.elim q
 | cont=>
  obtain ⟨_,_,_,q⟩:=hs;exact False.elim q
section
variable {X:Cx} {x:Str} {p pos:Pos} {e:Expr} {es:List Expr} {t:TA} {id T:String} {r:List V→Hp→VK→Prop}
def tCB (r:List V→Hp→VK→Prop) (t:TA):TE:=λσ H Q=>t σ H λvs H1=>r vs H1 Q
theorem Ly (hc:jn X (.builtin id) r) (hg:Gl X x) (hm:X.mg x=none) (hv:bootBuiltins x=some (.builtin id)) (ha:PA X (e::es) t) (hn:x≠"__name__":=by decide) (hdb:(x==("__debug__":Str))=false:=by decide)
  (he:starEach (e::es) X.env=(false,eval e X.env)::starEach es X.env:=by rfl) (hpl:(backTo pos (starEach es X.env)).any (·.1)=false:=by rfl):PE X (.Call (.Name x p) (e::es) [] pos) (tCB r t):=by
 intro pins s σ H Q I h;refine wpAny_Call_Name_kw (gz I hg hm hv ?_ hn hdb);exact PyProof.Rows.callWith_builtin1 (thn (ha pos pins s σ H _ I h) λus s1 ⟨vs,H1,I1,r1,q1⟩=>hc pins s1 σ H1 vs us Q I1 r1 q1) he hpl
theorem Hj (hc:jn X (.type T) r) (hg:Gl X x) (hm:X.mg x=none) (hv:bootBuiltins x=some (.type T)) (ha:PA X (e::es) t) (hn:x≠"__name__":=by decide) (hdb:(x==("__debug__":Str))=false:=by decide)
  (he:starEach (e::es) X.env=(false,eval e X.env)::starEach es X.env:=by rfl) (hpl:(backTo pos (starEach es X.env)).any (·.1)=false:=by rfl):PE X (.Call (.Name x p) (e::es) [] pos) (tCB r t):=by
 intro pins s σ H Q I h;refine wpAny_Call_Name_kw (gz I hg hm hv ?_ hn hdb);exact PyProof.Rows.callWith_type1 (thn (ha pos pins s σ H _ I h) λus s1 ⟨vs,H1,I1,r1,q1⟩=>hc pins s1 σ H1 vs us Q I1 r1 q1) he hpl
end
end L2
namespace HT
open PySem PyProof.Rows
section
open PySem.SeqAt
open PySem.AutoSeq1 (wpAny_loadPart')
open PySem.MeetsSeq PySem.MeetsSeq2 PySem.MeetsSeq3
end
section
variable {prog:Program} {w:World} {A:Around} {E:Value→Shared→Prop} {s:Shared}
theorem Pu {t b:Addr} {vs ws:List Value} {Q:Value→Shared→Prop} (ht:IsTup s.heap t vs.toArray) (hb:IsTup s.heap b ws.toArray) (hv:vs≠[])
  (h1:ws=[]→Q (.ref t) s) (h2:ws≠[]→Q (.ref s.heap.objs.size) { s with heap:=s.heap.push { cls:=.type "tuple",data:=.seq (vs++ws).toArray } })
  (hsz:vs.length+ws.length≤sizeLine):wpAny (model prog w) A (binaryOp .Add (.ref t) (.ref b)) Q E s:=by
 obtain ⟨⟨cls,dd,data,sl⟩,ho,hc,n,hd⟩:=id ht;obtain ⟨⟨cls2,dd2,data2,sl2⟩,ho2,hc2,n2,hd2⟩:=id hb;simp only at hc hd hc2 hd2;subst hc hd hc2 hd2;have e:vs.toArray++ws.toArray=(vs++ws).toArray:=by simp
 by_cases hw:ws=[]
 ·exact concat_meets ⟨_,ho,rfl⟩ ⟨_,ho2,rfl⟩ noFill_tuple_add seq_tuple_add PySem.F.slot_tuple_add PySem.F.entry_tuple_add (PySem.F.args_tuple_add_2 _ _)
   (tuple_addW1 t b vs.toArray ws.toArray n n2 dd dd2 sl sl2 (by simpa using hv) (by simp[hw])) ⟨ho,ho2,h1 hw⟩
 ·refine concat_meets ⟨_,ho,rfl⟩ ⟨_,ho2,rfl⟩ noFill_tuple_add seq_tuple_add PySem.F.slot_tuple_add PySem.F.entry_tuple_add (PySem.F.args_tuple_add_2 _ _)
   (tuple_addW2 t b vs.toArray ws.toArray n n2 dd dd2 sl sl2 (by simpa using hv) (by simpa using hw) (by rw[aa5,aa5];exact hsz)) ⟨ho,ho2,?_⟩
  rw[e];exact h2 hw
noncomputable def sIx (n d:Nat):Option Int→Nat
 | none=>d
 | some v=>if v < 0 then (v+(n:Int)).toNat else min v.toNat n
theorem vb (n d:Nat):sIx n d none=d:=rfl
theorem yn (n d k:Nat):sIx n d (some (k:Int))=min k n:=by
 show (if (k:Int) < 0 then ((k:Int)+(n:Int)).toNat else min (k:Int).toNat n)=min k n
 rw[if_neg (by omega),ac8]
theorem sIx_le (n d:Nat) (hd:d≤n) (o:Option Int):sIx n d o≤n:=by
 cases o with
 | none=>exact hd
 | some v=>
  show (if v < 0 then (v+(n:Int)).toNat else min v.toNat n)≤n
  by_cases hv:v < 0
  ·rw[if_pos hv];omega
  ·rw[if_neg hv];exact Nat.min_le_right _ _
theorem Fp (v:Int) (n d:Nat):(if v < 0 then max (v+(n:Int)) 0 else min v (n:Int))=((sIx n d (some v):Nat):Int):=by
 show (if v < 0 then max (v+(n:Int)) 0 else min v (n:Int))=(((if v < 0 then (v+(n:Int)).toNat else min v.toNat n):Nat):Int)
 by_cases hv:v < 0
 ·simp only[if_pos hv];omega
 ·simp only[if_neg hv];omega
theorem E8 (lo hi:Option Int) (n:Nat):Builtin.Slice.sliceAdjust lo hi 1 (n:Int)=(((sIx n 0 lo:Nat):Int),((sIx n n hi:Nat):Int)):=by
 have h1:¬((1:Int) < 0):=by omega
 unfold Builtin.Slice.sliceAdjust;simp only[h1,if_false];refine Prod.ext ?_ ?_
 ·cases lo with
  | none=>rfl
  | some v=>exact Fp v n 0
 ·cases hi with
  | none=>rfl
  | some v=>exact Fp v n n
theorem Du (i j:Nat):Builtin.Slice.slicePlaces (i:Int) (j:Int) 1=j - i:=by
 unfold Builtin.Slice.slicePlaces;have h1:(1:Int) > 0:=by omega
 simp only[h1,if_true,Int.ediv_one];split <;> omega
theorem ve {v:Value} {o:Option Int} {Q:Option Int→Shared→Prop} (p:IsPart v o) (h:Q o s):wpAny (model prog w) A (Builtin.Slice.slicePartIndex v) Q E s:=by
 cases p with
 | none=>exact slicePart_none h
 | int i t=>exact slicePart_int h
theorem iw {sl:Addr} {vl vu:Value} {lo hi:Option Int} {n:Nat} {Q:Int×Int×Nat→Shared→Prop} (hs:s.heap.IsSliceOf sl vl vu .none) (pl:IsPart vl lo) (pu:IsPart vu hi)
  (h:Q (((sIx n 0 lo:Nat):Int),1,sIx n n hi - sIx n 0 lo) s):wpAny (model prog w) A (Builtin.Slice.sliceApplied (.ref sl) (pure (n:Int))) Q E s:=by
 obtain ⟨os,hos,hcs,hds⟩:=id hs;unfold Builtin.Slice.sliceApplied Builtin.Slice.sliceFields;refine wpAny_bind (wpAny_bind (wpAny_field hos hds (x:=vl) rfl (wpAny_bind (wpAny_field hos hds (x:=vu) rfl (wpAny_bind (wpAny_field hos hds (x:=.none) rfl (wpAny_pure ?_)))))));refine wpAny_bind (slicePart_none ?_);show wpAny _ _ (if ((1:Int)==0)=true then _ else _) _ _ s
 rw[if_neg (by decide)];refine wpAny_bind (ve pl (wpAny_bind (ve pu (wpAny_bind (wpAny_pure ?_)))));show wpAny _ _ (match Builtin.Slice.sliceAdjust lo hi 1 (n:Int) with | (lo,hi)=>pure (lo,(1:Int),Builtin.Slice.slicePlaces lo hi 1)) _ _ s
 rw[E8 lo hi n];show wpAny _ _ (pure (((sIx n 0 lo:Nat):Int),(1:Int),Builtin.Slice.slicePlaces ((sIx n 0 lo:Nat):Int) ((sIx n n hi:Nat):Int) 1)) _ _ s
 rw[Du];exact wpAny_pure h
theorem Mj (xs:Array Value) (i k:Nat):((aaq k).filterMap λ(m:Nat)=>xs[((i:Int)+(m:Int)*1).toNat]?).toArray=((xs.toList.drop i).take k).toArray:=by
 have e:(λ(m:Nat)=>xs[((i:Int)+(m:Int)*1).toNat]?)=λm=>xs[i+m]?:=by
  funext m
  have:((i:Int)+(m:Int)*1).toNat=i+m:=by omega
  rw[this]
 rw[e];have:=pick_run xs i k;rw[List.filterMap_map] at this;have e2:((λx=>xs[x]?) ∘ λx=>i+x)=λm=>xs[i+m]?:=rfl;rw[e2] at this;rw[this]
theorem oh {t sl:Addr} {items:Array Value} {vl vu:Value} {lo hi:Option Int} {Q:Value→Shared→Prop} (ht:IsTup s.heap t items) (hs:s.heap.IsSliceOf sl vl vu .none) (pl:IsPart vl lo) (pu:IsPart vu hi)
  (hw:¬(sIx items.size 0 lo=0∧sIx items.size items.size hi=items.size))
  (h:Q (.ref s.heap.objs.size) { s with heap:=s.heap.push { cls:=.type "tuple",data:=.seq ((items.toList.drop (sIx items.size 0 lo)).take (sIx items.size items.size hi - sIx items.size 0 lo)).toArray } })
  (hsz:items.size≤sizeLine):wpAny (model prog w) A (getItem (.ref t) (.ref sl)) Q E s:=by
 have htake:sizeOk (.seq ((items.toList.drop (sIx items.size 0 lo)).take (sIx items.size items.size hi - sIx items.size 0 lo)).toArray):=by
  show ((items.toList.drop (sIx items.size 0 lo)).take (sIx items.size items.size hi - sIx items.size 0 lo)).toArray.size≤sizeLine
  rw[aa5,aav,aan,ac0];omega
 have hj:sIx items.size items.size hi≤items.size:=sIx_le _ _ (aa4 _) hi;obtain ⟨os,hos,hcs,hds⟩:=id hs;have hTs:s.TypeIs (.ref sl) "slice":=⟨os,hos,hcs⟩;unfold getItem;try with_reducible refine wpAny_holding ?_
 first | refine wpAny_bind (wpAny_pure ?_) | skip
 refine wpAny_bind (wpAny_sequenceKey ht.typeIs (by decide) ?_);refine wpAny_bind (wpAny_callSpecial?_slot (name:=Str.ofString "__getitem__") ht.typeIs PyProof.Rows.slot_tuple_getitem
  (wpAny_call_entry PyProof.Rows.slot_tuple_getitem ht.typeIs entry_tuple_getitem ?_ (args_tuple_getitem _ _)))
 show wpAny _ _ (Builtin.Tuple.tupleItemsOf (.ref t) >>=_) _ _ s
 refine wpAny_bind (tupleItemsOf_ ht ?_);refine wpAny_bind (wpAny_typeOf hTs ?_);rw[if_pos (by decide)];refine wpAny_bind (iw hs pl pu ?_);have hno:¬((((sIx items.size 0 lo:Nat):Int)==0&&(1:Int)==1&&(sIx items.size items.size hi - sIx items.size 0 lo)==items.size)=true):=by
  intro q;rw[acd,acd] at q;have q1:((sIx items.size 0 lo:Nat):Int)=0:=eq_of_beq q.1.1;have q2:sIx items.size items.size hi - sIx items.size 0 lo=items.size:=eq_of_beq q.2;exact hw ⟨by omega,by omega⟩
 show wpAny _ _ (if (((sIx items.size 0 lo:Nat):Int)==0&&(1:Int)==1&&(sIx items.size items.size hi - sIx items.size 0 lo)==items.size)=true then _ else _) _ _ s
 rw[if_neg hno,Mj];first
  | exact wpAny_bind (m:=Builtin.Tuple.tupleExact _) (wpAny_newObj_type (wpAny_pure ⟨_,rfl,wpAny_pure h⟩) htake)
  | exact wpAny_bind (m:=Builtin.Tuple.tupleExact _) (wpAny_newObj_type (wpAny_bind (wpAny_pure (wpAny_pure ⟨_,rfl,wpAny_pure h⟩))) htake)
  | exact wpAny_bind (wpAny_bind (m:=Builtin.Tuple.tupleExact _) (wpAny_newObj_type (wpAny_pure (wpAny_pure ⟨_,rfl,wpAny_pure h⟩)) htake))
  | exact wpAny_bind (wpAny_bind (m:=Builtin.Tuple.tupleExact _) (wpAny_newObj_type (wpAny_pure ⟨_,rfl,wpAny_pure h⟩) htake))
end
end HT
namespace L2
open PySem PySem.Spec PyProof.Rows
abbrev TO:=St→Hp→(Option Int→Hp→Prop)→Prop
def PO (X:Cx) (e:Option Expr) (t:TO):Prop:=
 ∀(pins:List (Addr×Obj)) (s:Shared) (σ:St) (H:Hp) (Q:Option Int→Hp→Prop),Inv X pins σ H s→t σ H Q→
  wpAny (model X.prog X.w) X.A (evalPart e X.env) (λu s'=>∃o H',Inv X pins σ H' s'∧IsPart u o∧Q o H') X.xe s
def Gf:TO:=λ_ H Q=>Q none H
def M4 (t:TE):TO:=λσ H Q=>t σ H λx H1=>∃i,x=.int i∧Q (some i) H1
theorem intsAre_of {ns:List Int}:∀{us:List Value},Vals (ns.map V.int) us→IntsAre us ns:=by
 induction ns with
 | nil=>intro us r;rw[adf] at r;cases r;exact .nil
 | cons n ns ih=>
  intro us r;rw[aaw] at r;cases r with
  | cons r1 r2=>
   obtain ⟨t,e⟩:=r1;subst e;exact .cons n t (ih r2)
section
variable {X:Cx} {e:Expr} {te:TE} {lo hi:Option Expr} {tl th:TO} {pos p2:Pos}
theorem jd:PO X none Gf:=by
 intro pins s σ H Q I h;rw[evalPart_none];exact wpAny_pure ⟨none,H,I,.none,h⟩
theorem Of (h:PE X e te):PO X (some e) (M4 te):=by
 intro pins s σ H Q I hw;rw[evalPart_some];refine thn (h pins s σ H _ I hw) λu s1 ⟨x,H1,I1,r1,q1⟩=>?_;obtain ⟨i,rfl,q⟩:=q1;obtain ⟨t,rfl⟩:=r1;exact ⟨some i,H1,I1,.int i t,q⟩
def SlR (X:Cx) (r:V→Option Int→Option Int→Hp→VK→Prop):Prop:=
 ∀(pins:List (Addr×Obj)) (s:Shared) (σ:St) (H:Hp) (x:V) (v vl vu:Value) (lo hi:Option Int) (sl:Addr) (Q:VK),Inv X pins σ H s→RelV x v→s.heap.IsSliceOf sl vl vu .none→IsPart vl lo→IsPart vu hi→r x lo hi H Q→
  ∃T id,typeLookup (.type T) "__getitem__"=pure (some (.builtin id))∧s.TypeIs v T∧wpAny (model X.prog X.w) X.A (getItem v (.ref sl)) (EP X pins σ Q) X.xe s
def tSl (r:V→Option Int→Option Int→Hp→VK→Prop) (te:TE) (tl th:TO):TE:=λσ H Q=>te σ H λx H1=>tl σ H1 λl H2=>th σ H2 λu H3=>r x l u H3 Q
theorem Jo {r:V→Option Int→Option Int→Hp→VK→Prop} (hr:SlR X r) (he:PE X e te) (hl:PO X lo tl) (hu:PO X hi th):PE X (.Subscript e (.Slice lo hi none p2) pos) (tSl r te tl th):=by
 intro pins s σ H Q I h;refine Subscript_ (thn (he pins s σ H _ I h) λv s1 ⟨x,H1,I1,r1,q1⟩=>?_);refine wpAny_Slice (thn (hl pins s1 σ H1 _ I1 q1) λvl s2 ⟨l,H2,I2,pl,q2⟩=>thn (hu pins s2 σ H2 _ I2 q2) λvu s3 ⟨u,H3,I3,pu,q3⟩=>?_);rw[evalPart_none];refine wpAny_pure ?_;have I4:Inv X pins σ H3 { s3 with heap:=s3.heap.push { cls:=.type "slice",data:=.fields #[vl,vu,.none] } }:=I3.kept (t':=s3.toks) λb ob q=>Heap.get?_push_of_some _ q;obtain ⟨T,id,hT,ht,hg⟩:=hr pins { s3 with heap:=s3.heap.push { cls:=.type "slice",data:=.fields #[vl,vu,.none] } } σ H3 x v vl vu l u s3.heap.objs.size Q I4 r1 (Heap.IsSliceOf.new ..) pl pu q3;show wpAny (model X.prog X.w) X.A (subscriptTail e (.Slice lo hi none p2) v (.ref s3.heap.objs.size)) (EP X pins σ Q) X.xe { s3 with heap:=s3.heap.push { cls:=.type "slice",data:=.fields #[vl,vu,.none] } }
 exact tail_any (ops:=[.ref s3.heap.objs.size,v]) ht hT hg (by with_unfolding_all rfl)
noncomputable def ib (xs:List V) (lo hi:Option Int):List V:=(xs.drop (HT.sIx xs.length 0 lo)).take (HT.sIx xs.length xs.length hi - HT.sIx xs.length 0 lo)
theorem qp (xs:List V) (lo hi:Option Int):(ib xs lo hi).length≤xs.length:=by
 unfold ib;rw[aav,aan];omega
def rSlT (K:PySem.W.Frag):V→Option Int→Option Int→Hp→VK→Prop:=λx lo hi H Q=>∃a xs,x=.ref a∧SqT K H a xs∧
 ¬(HT.sIx xs.length 0 lo=0∧HT.sIx xs.length xs.length hi=xs.length)∧∀p,H p=none→Q (.ref p) (upd H p (.tup (ib xs lo hi)))
theorem sl_tup:SlR X (rSlT X.K):=by
 intro pins s σ H x v vl vu lo hi sl Q I rx hs pl pu h;obtain ⟨a,xs,rfl,hx,hw,q⟩:=h;cases rx
 obtain ⟨its,r,ht,hz⟩:=I.tuple hx;have hlen:its.toArray.size=xs.length:=by rw[aa5];exact r.length.symm
 refine ⟨"tuple",_,PyProof.Rows.slot_tuple_getitem.lookup,ht.typeIs,?_⟩;refine HT.oh ht hs pl pu (by rw[hlen];exact hw) ?_ (by rw[hlen];exact hz);rw[hlen];refine ⟨.ref s.heap.objs.size,_,I.laid (t':=s.toks) (o:=.tup (ib xs lo hi)) (λb ob q=>Heap.get?_push_of_some _ q) (aa4 _) ?_,rfl,q _ (I.hok.fresh (aa4 _))⟩;exact ⟨aar (qp xs lo hi) hz,_,(r.drop (HT.sIx xs.length 0 lo)).take (HT.sIx xs.length xs.length hi - HT.sIx xs.length 0 lo),⟨_,Heap.get?_push_size _ rfl,rfl,_,rfl,rfl⟩⟩
def rCatT (K:PySem.W.Frag):R2:=λx y H Q=>∃a b xs ys,x=.ref a∧y=.ref b∧SqT K H a xs∧SqT K H b ys∧xs≠[]∧xs.length+ys.length≤sizeLine∧
 (ys=[]→Q (.ref a) H)∧(ys≠[]→∀p,H p=none→Q (.ref p) (upd H p (.tup (xs++ys))))
theorem Vals.su {xs:List V} {us:List Value} (r:Vals xs us):us=[]↔xs=[]:=by
 cases r with
 | nil=>simp
 | cons _ _=>simp
theorem Nv:OpR X (binaryOp .Add) (rCatT X.K):=by
 intro pins s σ H x y v u Q I rx ry h;obtain ⟨a,b,xs,ys,rfl,rfl,ha,hb,hx,hz,q1,q2⟩:=h;cases rx
 cases ry
 obtain ⟨its,r1,p1,_⟩:=I.tuple ha;obtain ⟨its2,r2,p2,_⟩:=I.tuple hb;refine HT.Pu p1 p2 (λz=>hx (r1.su.mp z)) (λz=>⟨.ref a,H,I,rfl,q1 (r2.su.mp z)⟩) (λz=>?_) (by rw[←r1.length,←r2.length];exact hz);refine ⟨.ref s.heap.objs.size,_,I.laid (t':=s.toks) (o:=.tup (xs++ys)) (λb ob q=>Heap.get?_push_of_some _ q) (aa4 _) ?_,rfl,q2 (λw=>z (r2.su.mpr w)) _ (I.hok.fresh (aa4 _))⟩;exact ⟨by rw[aa2];exact hz,_,r1.append r2,⟨_,Heap.get?_push_size _ rfl,rfl,_,rfl,rfl⟩⟩
end
noncomputable def ixN (n:Nat) (i:Int):Option Nat:=if 0≤i then (if i < n then some i.toNat else none) else if -(n:Int)≤i then some (i+n).toNat else none
noncomputable def atI {α:Type} (xs:List α) (i:Int):Option α:=(ixN xs.length i).bind λj=>xs[j]?
theorem Gb {n:Nat} {i:Int} {j:Nat} (h:ixN n i=some j):seqIndex? i n=some j∧j < n∧-(n:Int)≤i∧i < n:=by
 unfold ixN at h;by_cases h0:0≤i
 ·rw[if_pos h0] at h;by_cases h1:i < n
  ·rw[if_pos h1] at h;have e:i.toNat=j:=aa3 h;exact ⟨by rw[seqIndex_of h0 h1,e],by omega,by omega,h1⟩
  ·rw[if_neg h1] at h;cases h
 ·rw[if_neg h0] at h;by_cases h1:-(n:Int)≤i
  ·rw[if_pos h1] at h;have e:(i+n).toNat=j:=aa3 h;exact ⟨by rw[seqIndex_neg (by omega) h1,e],by omega,h1,by omega⟩
  ·rw[if_neg h1] at h;cases h
theorem zx {α:Type} {xs:List α} {i:Int} {v:α} (h:atI xs i=some v):∃j,seqIndex? i xs.length=some j∧xs[j]?=some v∧j < xs.length∧-(xs.length:Int)≤i∧i < xs.length:=by
 unfold atI at h;cases e:ixN xs.length i with
 | none=>rw[e] at h;cases h
 | some j=>
  rw[e] at h;obtain ⟨h1,h2,h3,h4⟩:=Gb e;exact ⟨j,h1,h,h2,h3,h4⟩
theorem bg {α:Type} {xs:List α} {j:Nat} {v:α} (h:xs[j]?=some v):atI xs (j:Int)=some v:=by
 have hj:j < xs.length:=(List.getElem?_eq_some_iff.mp h).1;have e:ixN xs.length (j:Int)=some j:=by
  unfold ixN;rw[if_pos (by omega),if_pos (by omega)];simp
 unfold atI;rw[e];exact h
def Qr (b:Expr):Prop:=∀o i,subscripted b false o i=operate [o,i] (getItem o i)
def IxR (X:Cx) (r:R2):Prop:=
 ∀(value slice:Expr) (pins:List (Addr×Obj)) (s:Shared) (σ:St) (H:Hp) (x y:V) (v u:Value) (Q:VK),Inv X pins σ H s→RelV x v→RelV y u→r x y H Q→
  subscripted slice false v u=operate [v,u] (getItem v u)→wpAny (model X.prog X.w) X.A (subscriptTail value slice v u) (EP X pins σ Q) X.xe s
def MtR (X:Cx) (id:String) (r:V→List V→Hp→VK→Prop):Prop:=
 ∀(pins:List (Addr×Obj)) (s:Shared) (σ:St) (H:Hp) (x:V) (xs:List V) (v:Value) (us:List Value) (Q:VK),Inv X pins σ H s→RelV x v→Vals xs us→r x xs H Q→
  wpAny (model X.prog X.w) X.A (call (.builtin id) (v::us)) (EP X pins σ Q) X.xe s
section
variable {X:Cx} {a b:Expr} {ta tb:TE} {pos:Pos}
theorem pe_ix {r:R2} (hr:IxR X r) (ha:PE X a ta) (hb:PE X b tb) (hs:Qr b):PE X (.Subscript a b pos) (tOp r ta tb):=by
 intro pins s σ H Q I h;exact Subscript_ (binT ha hb I h λv u s2 x y H2 I2 rx ry q=>hr a b pins s2 σ H2 x y v u Q I2 rx ry q (hs _ _))
def rIxL (K:PySem.W.Frag):R2:=λx y H Q=>∃p xs i v,x=.ref p∧y=.int i∧SqL K H p xs∧atI xs i=some v∧Q v H
def rIxT (K:PySem.W.Frag):R2:=λx y H Q=>∃p xs i v,x=.ref p∧y=.int i∧SqT K H p xs∧atI xs i=some v∧Q v H
def rIxS:R2:=λx y H Q=>∃z i c,x=.str z∧y=.int i∧z.length≤sizeLine∧atI z.cps.toList i=some c∧Q (.str ⟨#[c]⟩) H
theorem F0:IxR X (rIxL X.K):=by
 intro value slice pins s σ H x y v u Q I rx ry h hs;obtain ⟨p,xs,i,z,rfl,rfl,hq,he,q⟩:=h;cases rx
 obtain ⟨t,rfl⟩:=ry;obtain ⟨its,r,pl,hz⟩:=I.list hq;obtain ⟨j,h1,h2,h3,h4,h5⟩:=zx he;obtain ⟨w,ew,rw'⟩:=r.get h2;have hl:=r.length;have hn:=ug;have fin:EP X pins σ Q w s:=⟨z,H,I,rw',q⟩;by_cases h0:0≤i
 ·have hj:i.toNat=j:=by
   rw[seqIndex_of h0 h5] at h1;exact aa3 h1
  exact item_listR pl.isList h0 (by omega) (by rw[hj];simpa using ew) fin hs
 ·have hj:(i+(its.toArray.size:Int)).toNat=j:=by
   rw[seqIndex_neg (by omega) h4] at h1;rw[aa5,←hl];exact aa3 h1
  exact subscriptTail_builtinR (x:=w) pl.isList.typeIs slot_list_getitem.lookup
   (wpAny_getItem_list_neg (Q:=λr s'=>r=w∧EP X pins σ Q r s') pl.isList (by omega) (by rw[aa5] <;> omega) (by omega) (by rw[hj];simpa using ew) ⟨rfl,fin⟩) hs
theorem Kl:IxR X (rIxT X.K):=by
 intro value slice pins s σ H x y v u Q I rx ry h hs;obtain ⟨p,xs,i,z,rfl,rfl,hq,he,q⟩:=h;cases rx
 obtain ⟨t,rfl⟩:=ry;obtain ⟨its,r,pl,hz⟩:=I.tuple hq;obtain ⟨j,h1,h2,h3,h4,h5⟩:=zx he;obtain ⟨w,ew,rw'⟩:=r.get h2;have hl:=r.length;have hn:=ug;have fin:EP X pins σ Q w s:=⟨z,H,I,rw',q⟩;exact subscriptTail_builtinR (x:=w) pl.typeIs slot_tuple_getitem.lookup
  (getItem_tuple (j:=j) (Q:=λr s'=>r=w∧EP X pins σ Q r s') pl (by omega) (by omega) (by rw[aa5,←hl];exact h1) (by simpa using ew) ⟨rfl,fin⟩) hs
theorem jz:IxR X rIxS:=by
 intro value slice pins s σ H x y v u Q I rx ry h hs;obtain ⟨z,i,c,rfl,rfl,hz,he,q⟩:=h;obtain ⟨t,rfl⟩:=rx;obtain ⟨t',rfl⟩:=ry;obtain ⟨j,h1,h2,h3,h4,h5⟩:=zx he;have hl:z.cps.toList.length=z.length:=by simp[Str.length]
 rw[hl] at h1 h4 h5;have hn:=ug;exact tail_any (typeIs_str s z t) slot_str_getitem.lookup (getItem_str (c:=c) (by
  have e1:decide (i < -(2 ^ 63:Int))=false:=decide_eq_false (by omega);have e2:decide (i≥2 ^ 63)=false:=decide_eq_false (by omega);rw[e1,e2,ads]) (by rw[h1];simpa using h2) ⟨.str ⟨#[c]⟩,H,I.tok _,⟨_,rfl⟩,q⟩) hs
theorem Fg (its:List Value) (n j:Nat) (u:Value):Obj.mapSeq (·.setIfInBounds j u) { cls:=.type "list",data:=.seq its.toArray n }={ cls:=.type "list",data:=.seq (its.set j u).toArray n }:=by
 simp[Obj.mapSeq]
theorem Inv.lst {pins:List (Addr×Obj)} {σ:St} {H:Hp} {s:Shared} {p:Addr} {xs:List V} (I:Inv X pins σ H s) (h:H p=some (.lst xs)):
  ∃(its:List Value) (n:Nat),Vals xs its∧s.heap.get? p=some { cls:=.type "list",data:=.seq its.toArray n }∧xs.length≤sizeLine:=by
 obtain ⟨z,its,n,r,e⟩:=I.hok p _ h;exact ⟨its,n,r,e,z⟩
theorem Inv.lstUpd {pins:List (Addr×Obj)} {σ:St} {H:Hp} {s:Shared} {p:Addr} {xs ys:List V} {its its':List Value} {n n':Nat} {f:Obj→Obj} (I:Inv X pins σ H s) (h:H p=some (.lst xs))
  (ho:s.heap.get? p=some { cls:=.type "list",data:=.seq its.toArray n }) (hf:f { cls:=.type "list",data:=.seq its.toArray n }={ cls:=.type "list",data:=.seq its'.toArray n' }) (r:Vals ys its') (hz:ys.length≤sizeLine) (t:Nat):
  Inv X pins σ (upd H p (.lst ys)) { s with heap:=s.heap.update p f,toks:=t }:=by
 have e:(s.heap.update p f).get? p=some { cls:=.type "list",data:=.seq its'.toArray n' }:=by
  rw[Heap.get?_update_self f ho (by rw[hf] <;> rfl),hf]
 refine I.write (x:=p) (e:=p) (by rw[h];trivial) (.inl rfl) (λb u hb q=>(Heap.get?_update_other _ _ (Ne.symm hb)).trans q) ⟨_,e⟩ ?_;exact ⟨hz,its',n',r,e⟩
def J1:V→V→V→Hp→(Hp→Prop)→Prop:=λo i v H Q=>∃p xs k j,o=.ref p∧i=.int k∧H p=some (.lst xs)∧ixN xs.length k=some j∧Q (upd H p (.lst (xs.set j v)))
theorem set_list:PSet X J1:=by
 intro pins s σ H o i v ov iv u Q I ro ri rv h;obtain ⟨p,xs,k,j,rfl,rfl,hp,hj,q⟩:=h;cases ro
 obtain ⟨t,rfl⟩:=ri;obtain ⟨its,n,r,ho,hz⟩:=I.lst hp;obtain ⟨h1,h2,h3,h4⟩:=Gb hj;have hl:=r.length;have hn:=ug;have I':Inv X pins σ (upd H p (.lst (xs.set j v))) { s with heap:=s.heap.update p (Obj.mapSeq (·.setIfInBounds j u)) }:=
  I.lstUpd hp ho (Fg its n j u) (r.set rv j) (by rw[List.length_set];exact hz) s.toks
 by_cases h0:0≤k
 ·have hk:k.toNat=j:=by
   rw[seqIndex_of h0 h4] at h1;exact aa3 h1
  exact PySem.W.ki_setAt ho h0 (by omega) (by rw[aa5,←hl];exact h4) (by rw[hk];exact ⟨_,I',q⟩)
 ·have hk:(k+(its.toArray.size:Int)).toNat=j:=by
   rw[seqIndex_neg (by omega) h3] at h1;rw[aa5,←hl];exact aa3 h1
  exact PySem.W.ki_setBack ho (by omega) (by rw[aa5,←hl];exact h3) (by omega) (by rw[hk];exact ⟨_,I',q⟩)
theorem zv (lo hi:Option Int) (n:Nat):(sliceBounds lo hi none n).1=((HT.sIx n 0 lo:Nat):Int)∧(sliceBounds lo hi none n).2.1=((HT.sIx n n hi:Nat):Int)∧(sliceBounds lo hi none n).2.2=1:=by
 refine ⟨?_,?_,rfl⟩
 ·cases lo with
  | none=>simp[sliceBounds,HT.sIx]
  | some i=>
   simp only[sliceBounds,HT.sIx,ady,show (1:Int) > 0 by decide,if_true];by_cases h:i < 0
   ·simp only[h,if_true] <;> omega
   ·simp only[h,if_false] <;> omega
 ·cases hi with
  | none=>simp[sliceBounds,HT.sIx]
  | some i=>
   simp only[sliceBounds,HT.sIx,ady,show (1:Int) > 0 by decide,if_true];by_cases h:i < 0
   ·simp only[h,if_true] <;> omega
   ·simp only[h,if_false] <;> omega
theorem vy (its:List Value) (lo hi:Option Int):slicePick its.toArray lo hi none=((its.drop (HT.sIx its.length 0 lo)).take (HT.sIx its.length its.length hi - HT.sIx its.length 0 lo)).toArray:=by
 obtain ⟨h1,h2,h3⟩:=zv lo hi its.toArray.size;unfold slicePick;rw[h1,h2,h3];simp only[sliceRange_one,pick_run,aa5] <;> rfl
def rSlL (K:PySem.W.Frag):V→Option Int→Option Int→Hp→VK→Prop:=λx lo hi H Q=>∃a xs,x=.ref a∧SqL K H a xs∧∀p,H p=none→Q (.ref p) (upd H p (.lst (ib xs lo hi)))
theorem rq:SlR X (rSlL X.K):=by
 intro pins s σ H x v vl vu lo hi sl Q I rx hs pl pu h;obtain ⟨a,xs,rfl,hx,q⟩:=h;cases rx
 obtain ⟨its,r,ht,hz⟩:=I.list hx;have hlen:=r.length;refine ⟨"list",_,slot_list_getitem.lookup,ht.isList.typeIs,?_⟩;refine wpAny_getItem_list_slice ht.isList hs pl pu .none (by simp) ?_ (by rw[aa5] <;> omega);rw[vy,←hlen];refine ⟨.ref s.heap.objs.size,_,I.laid (t':=s.toks) (o:=.lst (ib xs lo hi)) (λb ob q=>Heap.get?_push_of_some _ q) (aa4 _) ?_,rfl,q _ (I.hok.fresh (aa4 _))⟩;exact ⟨aar (qp xs lo hi) hz,_,0,(r.drop (HT.sIx xs.length 0 lo)).take (HT.sIx xs.length xs.length hi - HT.sIx xs.length 0 lo),Heap.get?_push_size _ rfl⟩
noncomputable def il:V→Bool
 | .non=>true
 | .bl _=>true
 | .int _=>true
 | .str _=>true
 | _=>false
noncomputable def eqV:V→V→Bool
 | .non,.non=>true
 | .bl a,.bl b=>a==b
 | .bl a,.int b=>(if a then 1 else 0)==b
 | .int a,.bl b=>a==(if b then 1 else 0)
 | .int a,.int b=>a==b
 | .str a,.str b=>a==b
 | _,_=>false
theorem Ko {A:Around} {s:Shared} {y x:V} {u v:Value} (ry:RelV y u) (rx:RelV x v) (fy:il y=true) (fx:il x=true):SeqAt.EqAt A s u v (eqV y x):=by
 cases y with
 | non=>
  cases ry
  cases x with
  | non=>cases rx;exact SeqAt.EqAt.same _
  | bl b=>cases rx;exact SeqAt.EqAt.none_bool b
  | int b=>obtain ⟨t,rfl⟩:=rx;exact SeqAt.EqAt.none_int b t
  | str b=>obtain ⟨t,rfl⟩:=rx;exact SeqAt.EqAt.none_str b t
  | _=>exact absurd (show false=true from fx) aaj
 | bl a=>
  cases ry
  cases x with
  | non=>cases rx;exact SeqAt.EqAt.bool_none a
  | bl b=>cases rx;exact SeqAt.EqAt.bool_bool a b
  | int b=>obtain ⟨t,rfl⟩:=rx;exact SeqAt.EqAt.bool_int a b t
  | str b=>obtain ⟨t,rfl⟩:=rx;exact SeqAt.EqAt.bool_str a b t
  | _=>exact absurd (show false=true from fx) aaj
 | int a=>
  obtain ⟨t',rfl⟩:=ry;cases x with
  | non=>cases rx;exact SeqAt.EqAt.int_none a t'
  | bl b=>cases rx;exact SeqAt.EqAt.int_bool a t' b
  | int b=>obtain ⟨t,rfl⟩:=rx;exact SeqAt.EqAt.int_int a t' b t
  | str b=>obtain ⟨t,rfl⟩:=rx;exact SeqAt.EqAt.int_str a t' b t
  | _=>exact absurd (show false=true from fx) aaj
 | str a=>
  obtain ⟨t',rfl⟩:=ry;cases x with
  | non=>cases rx;exact SeqAt.EqAt.str_none a t'
  | bl b=>cases rx;exact SeqAt.EqAt.str_bool a t' b
  | int b=>obtain ⟨t,rfl⟩:=rx;exact SeqAt.EqAt.str_int a t' b t
  | str b=>obtain ⟨t,rfl⟩:=rx;exact SeqAt.EqAt.str_str a t' b t
  | _=>exact absurd (show false=true from fx) aaj
 | _=>exact absurd (show false=true from fy) aaj
noncomputable def eqU (x:V) (u:Value):Bool:=match u with
 | .none=>eqV .non x
 | .bool b=>eqV (.bl b) x
 | .int i _=>eqV (.int i) x
 | .str z _=>eqV (.str z) x
 | _=>false
theorem Jn {x y:V} {u:Value} (r:RelV y u) (f:il y=true):eqU x u=eqV y x:=by
 cases y with
 | non=>cases r;rfl
 | bl b=>cases r;rfl
 | int i=>obtain ⟨t,rfl⟩:=r;rfl
 | str z=>obtain ⟨t,rfl⟩:=r;rfl
 | _=>exact absurd (show false=true from f) aaj
theorem mz {x:V}:∀{xs:List V} {us:List Value},Vals xs us→xs.all il=true→us.any (eqU x)=xs.any λy=>eqV y x
 | _,_,.nil,_=>rfl
 | y::xs,u::us,.cons r t,f=>by
  rw[List.all_cons,acd] at f;rw[ad9,ad9,Jn r f.1,mz t f.2]
theorem j4 {A:Around} {s:Shared} {x:V} {v:Value} (rx:RelV x v) (fx:il x=true):∀{xs:List V} {us:List Value},Vals xs us→xs.all il=true→∀u∈us,SeqAt.EqAt A s u v (eqU x u)
 | _,_,.nil,_=>λu hu=>by cases hu
 | y::xs,u::us,.cons r t,f=>λu' hu=>by
  rw[List.all_cons,acd] at f;rcases List.mem_cons.mp hu with rfl | hu
  ·rw[Jn r f.1];exact Ko r rx f.1 fx
  ·exact j4 rx fx t f.2 u' hu
noncomputable def inV (x:V) (xs:List V):Bool:=xs.any λy=>eqV y x
def rIn (K:PySem.W.Frag) (neg:Bool):R2:=λx y H Q=>∃p xs,y=.ref p∧(SqL K H p xs∨SqT K H p xs)∧il x=true∧xs.all il=true∧Q (.bl (if neg then !inV x xs else inV x xs)) H
theorem wz:OpR X (compareOp .In) (rIn X.K false):=by
 intro pins s σ H x y v u Q I rx ry h;obtain ⟨p,xs,rfl,hq,fx,fs,q⟩:=h;cases ry
 rcases hq with hq | hq
 ·obtain ⟨its,r,pl,hz⟩:=I.list hq;refine SeqAt.in_listAt (eqU x) pl.isList (λw hw=>j4 rx fx r fs w (by simpa using hw)) ⟨.bl _,H,I,rfl,?_⟩;rw[show its.toArray.any (eqU x)=its.any (eqU x) by simp,mz r fs];exact q
 ·obtain ⟨its,r,pl,hz⟩:=I.tuple hq;refine SeqAt.in_tupleAt (eqU x) pl (λw hw=>j4 rx fx r fs w (by simpa using hw)) ⟨.bl _,H,I,rfl,?_⟩;rw[show its.toArray.any (eqU x)=its.any (eqU x) by simp,mz r fs];exact q
theorem yw:OpR X (compareOp .NotIn) (rIn X.K true):=by
 intro pins s σ H x y v u Q I rx ry h;obtain ⟨p,xs,rfl,hq,fx,fs,q⟩:=h;cases ry
 rcases hq with hq | hq
 ·obtain ⟨its,r,pl,hz⟩:=I.list hq;refine SeqAt.notIn_listAt (eqU x) pl.isList (λw hw=>j4 rx fx r fs w (by simpa using hw)) ⟨.bl _,H,I,rfl,?_⟩;rw[show its.toArray.any (eqU x)=its.any (eqU x) by simp,mz r fs];exact q
 ·obtain ⟨its,r,pl,hz⟩:=I.tuple hq;refine SeqAt.notIn_tupleAt (eqU x) pl (λw hw=>j4 rx fx r fs w (by simpa using hw)) ⟨.bl _,H,I,rfl,?_⟩;rw[show its.toArray.any (eqU x)=its.any (eqU x) by simp,mz r fs];exact q
theorem yj:jn X (.builtin "len") (λxs H Q=>∃p ys,xs=[.ref p]∧(SqL X.K H p ys∨SqT X.K H p ys)∧Q (.int ys.length) H):=by
 intro pins s σ H xs us Q I r h;obtain ⟨p,ys,rfl,hq,q⟩:=h;obtain ⟨u,rfl,rx⟩:=vals1 r;cases rx
 have hn:=ug;rcases hq with hq | hq
 ·obtain ⟨its,r',pl,hz⟩:=I.list hq;have hlen:=r'.length;exact Calls.call_len_list pl.isList (by simp only[aa5] <;> omega) ⟨.int ys.length,H,I.tok _,⟨s.toks+1,by rw[aa5,hlen]⟩,q⟩
 ·obtain ⟨its,r',pl,hz⟩:=I.tuple hq;have hlen:=r'.length;exact len_tuple pl (by simp only[aa5] <;> omega) ⟨.int ys.length,H,I.tok _,⟨s.toks+1,by rw[aa5,hlen]⟩,q⟩
theorem wa:jn X (.type "tuple") (λxs H Q=>∃p ys,xs=[.ref p]∧((SqL X.K H p ys∧∀l,H l=none→Q (.ref l) (upd H l (.tup ys)))∨(SqT X.K H p ys∧Q (.ref p) H))):=by
 intro pins s σ H xs us Q I r h;obtain ⟨p,ys,rfl,h⟩:=h;obtain ⟨u,rfl,rx⟩:=vals1 r;cases rx
 rcases h with ⟨hq,q⟩ | ⟨hq,q⟩
 ·obtain ⟨its,r',pl,hz⟩:=I.list hq;have hlen:=r'.length;refine call_tuple_list pl.isList (λh' kp=>?_) (by simp only[aa5] <;> omega);have I1:Inv X pins σ H { s with heap:=h' }:=I.kept (t':=s.toks) kp;have I2:Inv X pins σ (upd H h'.objs.size (.tup ys)) { s with heap:=h'.push { cls:=.type "tuple",data:=.seq its.toArray } }:=
   I1.laid (t':=s.toks) (λb o e=>Heap.get?_push_of_some _ e) (aa4 _) (show b7 X.prog X.w _ _ _ (.tup ys) from ⟨hz,its,r',⟨_,Heap.get?_push_size _ rfl,rfl,_,rfl,rfl⟩⟩)
  exact ⟨.ref h'.objs.size,_,I2,rfl,q _ (I1.hok.fresh (aa4 _))⟩
 ·obtain ⟨its,r',pl,hz⟩:=I.tuple hq;exact call_tuple_same pl ⟨.ref p,H,I,rfl,q⟩
def tyV (K:PySem.W.Frag) (T:String) (x:V) (H:Hp):Prop:=match x with
 | .str _=>T="str"
 | .int _=>T="int"
 | .ref p=>(T="list"∧∃xs,SqL K H p xs)∨(T="tuple"∧((∃o,K.lookup p=some o∧o.cls=.type "tuple"∧o.dict=none)∨∃xs,H p=some (.tup xs)))∨
   (T="dict"∧((∃kvs,H p=some (.dK kvs))∨∃kvs,H p=some (.dT kvs)))∨(T="set"∧∃S n,H p=some (.set S n))
 | _=>False
theorem La {pins:List (Addr×Obj)} {σ:St} {H:Hp} {s:Shared} {T:String} {x:V} {v:Value} (I:Inv X pins σ H s) (r:RelV x v) (ty:tyV X.K T x H):
  s.TypeIs v T∧∀a,v=.ref a→∃ob,s.heap.get? a=some ob∧ob.dict=none:=by
 cases x with
 | str z=>
  obtain ⟨t,rfl⟩:=r;cases (show T="str" from ty)
  exact ⟨typeIs_str s z t,λ_ e=>nomatch e⟩
 | int i=>
  obtain ⟨t,rfl⟩:=r;cases (show T="int" from ty)
  exact ⟨typeIs_int s i t,λ_ e=>nomatch e⟩
 | ref p=>
  cases r
  rcases ty with ⟨rfl,xs,hq⟩ | ⟨rfl,⟨o,hk,hc,hd⟩ | ⟨xs,hx⟩⟩ | ⟨rfl,hk⟩ | ⟨rfl,S,n,hk⟩
  ·obtain ⟨its,_,pl,_⟩:=I.list hq;refine ⟨pl.isList.typeIs,λa e=>?_⟩;cases e
   obtain ⟨o,n,e,c,hd,_⟩:=pl;exact ⟨o,e,hd⟩
  ·refine ⟨⟨o,I.kIn p o hk,hc⟩,λa e=>?_⟩;cases e
   exact ⟨o,I.kIn _ o hk,hd⟩
  ·obtain ⟨_,its,_,o,h1,h2,n,_,h3⟩:=I.hok p _ hx;refine ⟨⟨o,h1,h2⟩,λa e=>?_⟩;cases e
   exact ⟨o,h1,h3⟩
  ·have z:∃o,s.heap.get? p=some o∧o.ExactDict:=by
    rcases hk with ⟨kvs,hk⟩ | ⟨kvs,hk⟩
    ·obtain ⟨_,_,_,_,o,_,_,e,ex,_⟩:=I.hok p _ hk;exact ⟨o,e,ex⟩
    ·obtain ⟨_,_,_,_,o,_,_,e,ex,_⟩:=I.hok p _ hk;exact ⟨o,e,ex⟩
   obtain ⟨o,e,ex⟩:=z;refine ⟨⟨o,e,ex.1⟩,λa e2=>?_⟩;cases e2
   exact ⟨o,e,ex.2.1⟩
  ·obtain ⟨o,_,_,_,e,ex,_⟩:=I.hok p _ hk;refine ⟨⟨o,e,ex.1⟩,λa e2=>?_⟩;cases e2
   exact ⟨o,e,ex.2.1⟩
 | _=>exact False.elim ty
def tBM0 (K:PySem.W.Frag) (T:String) (r:V→List V→Hp→VK→Prop) (to:TE):TE:=λσ H Q=>to σ H λx H1=>tyV K T x H1∧r x [] H1 Q
def tBM (K:PySem.W.Frag) (T:String) (r:V→List V→Hp→VK→Prop) (to:TE) (t:TA):TE:=λσ H Q=>to σ H λx H1=>tyV K T x H1∧t σ H1 λxs H2=>r x xs H2 Q
variable {o e:Expr} {es:List Expr} {to:TE} {t:TA} {name:Str} {apos cpos:Pos} {T id:String} {r:V→List V→Hp→VK→Prop}
theorem pe_bm0 (pa:PlainAttrs T) (slot:Slot T name id) (hty:typeOf (.builtin id)=pure (.type "method_descriptor")) (hm:MtR X id r) (ho:PE X o to)
  (hbase:attributeBase o name X.env (eval o X.env)=eval o X.env:=by rfl) (hline:(apos.endLine==cpos.line)=true:=by rfl):PE X (.Call (.Attribute o name apos) [] [] cpos) (tBM0 X.K T r to):=by
 intro pins s σ H Q I h;refine wpAny_Call_method0_late hbase hline (thn (ho pins s σ H _ I h) λv s1 ⟨x,H1,I1,r1,ty,q1⟩=>?_);obtain ⟨h1,h2⟩:=La I1 r1 ty;exact ⟨T,id,pa,slot,hty,h1,h2,Calls.callWith_builtin rfl (PySem.evalArgs_none (hm pins s1 σ H1 x [] v [] Q I1 r1 .nil q1))⟩
theorem pe_bm (pa:PlainAttrs T) (slot:Slot T name id) (hty:typeOf (.builtin id)=pure (.type "method_descriptor")) (hm:MtR X id r) (ho:PE X o to) (ha:PA X (e::es) t)
  (hbase:attributeBase o name X.env (eval o X.env)=eval o X.env:=by rfl)
  (hfew:((backTo cpos (starEach (e::es) X.env)).all (λx=>!x.1)&&(backToKw cpos (keywordEach [] X.env)).all (λx=>x.1.isSome)
   &&decide ((e::es).length+([]:List Keyword).length+(if ([]:List Keyword).isEmpty then 0 else 1) < 30))=true:=by rfl)
  (hline:(apos.endLine==cpos.line)=true:=by rfl) (hs:starEach (e::es) X.env=(false,eval e X.env)::starEach es X.env:=by rfl) (hplain:(backTo cpos (starEach es X.env)).any (·.1)=false:=by rfl):
  PE X (.Call (.Attribute o name apos) (e::es) [] cpos) (tBM X.K T r to t):=by
 intro pins s σ H Q I h;refine wpAny_Call_method_late hbase hfew hline rfl (thn (ho pins s σ H _ I h) λv s1 ⟨x,H1,I1,r1,ty,q1⟩=>?_);obtain ⟨h1,h2⟩:=La I1 r1 ty;refine ⟨T,id,pa,slot,hty,h1,h2,?_⟩;have hA:=ha cpos pins s1 σ H1 _ I1 q1;rw[hs] at hA ⊢;refine Calls.callWith_builtin (by show (false||(backTo cpos (starEach es X.env)).any (·.1))=false;rw[hplain] <;> rfl) (Calls.evalArgs_plain ?_);exact thn hA λus s2 ⟨vs,H2,I2,r2,q2⟩=>hm pins s2 σ H2 x vs v us Q I2 r1 r2 q2
end
def MtM (X:Cx) (id:String) (r:V→List V→Hp→VK→Prop):Prop:=
 ∀(pins:List (Addr×Obj)) (s:Shared) (σ:St) (H:Hp) (x:V) (xs:List V) (v:Value) (us:List Value) (Q:VK),Inv X pins σ H s→RelV x v→Vals xs us→r x xs H Q→
  wpAny (model X.prog X.w) X.A (call (.builtin id) (v::us)) (EP X pins σ Q) X.xe s
theorem Vals.one:∀{x:V} {us:List Value},Vals [x] us→∃u,us=[u]∧RelV x u
 | _,_,.cons r .nil=>⟨_,rfl,r⟩
theorem Vals.zero:∀{us:List Value},Vals [] us→us=[]
 | _,.nil=>rfl
theorem Vals.dropLast {xs:List V} {us:List Value} (h:Vals xs us):Vals xs.dropLast us.dropLast:=by
 induction h with
 | nil=>exact .nil
 | cons r t ih=>
  cases t with
  | nil=>exact .nil
  | cons q t'=>exact .cons r ih
theorem Vals.reverse {xs:List V} {us:List Value} (h:Vals xs us):Vals xs.reverse us.reverse:=by
 induction h with
 | nil=>exact .nil
 | cons r t ih=>rw[ach,ach];exact Vals.append ih (.cons r .nil)
theorem Vals.rep {xs:List V} {us:List Value} (h:Vals xs us):∀k:Nat,Vals (aak k xs).flatten (aak k us).flatten
 | 0=>.nil
 | k+1=>by
  rw[ab5,ab5,abx,abx];exact Vals.append h (Vals.rep h k)
theorem Ej {α:Type} (l:List α):l.eraseIdx (l.length - 1)=l.dropLast:=by
 induction l with
 | nil=>rfl
 | cons a r ih=>
  cases r with
  | nil=>rfl
  | cons b r=>
   have e:(a::b::r).length - 1=((b::r).length - 1)+1:=by
    have h1:(a::b::r).length=r.length+2:=rfl;have h2:(b::r).length=r.length+1:=rfl;omega
   rw[e,List.eraseIdx_cons_succ,ih];all_goals rfl
theorem foldl_rep (its:List Value):∀(k:Nat) (acc:List Value),
  af3 (λx1 x2=>x1++x2) acc.toArray (aak k its.toArray)=(acc++(aak k its).flatten).toArray
 | 0,acc=>by simp
 | k+1,acc=>by
  have e:acc.toArray++its.toArray=(acc++its).toArray:=by simp
  have e2:(acc++its)++(aak k its).flatten=acc++(aak (k+1) its).flatten:=by
   rw[ab5,abx,abo]
  rw[←e2,←foldl_rep its k (acc++its),←e,ab5,af4]
section
variable {X:Cx} {pins:List (Addr×Obj)} {σ:St} {H:Hp} {s:Shared} {l b:Addr} {xs ys zs:List V}
theorem Inv.lset {its its':List Value} {n:Nat} {f:Array Value→Array Value} {t':Nat} (I:Inv X pins σ H s) (hH:H l=some (.lst xs))
  (e:s.heap.get? l=some { cls:=.type "list",data:=.seq its.toArray n }) (hf:f its.toArray=its'.toArray) (hv:Vals ys its') (hz:ys.length≤sizeLine):
  Inv X pins σ (upd H l (.lst ys)) { s with heap:=s.heap.update l (Obj.mapSeq f),toks:=t' }:=by
 have q:=PySem.IsL.update e f;rw[hf] at q;refine I.write (x:=l) (e:=l) (by rw[hH];exact trivial) (.inl rfl) (λb' u hb hu=>(Heap.get?_update_other s.heap (Obj.mapSeq f) (Ne.symm hb)).trans hu) ⟨_,q⟩ ?_;exact ⟨hz,its',_,hv,q⟩
theorem Inv.lnew {its:List Value} {t':Nat} (I:Inv X pins σ H s) (hv:Vals ys its) (hz:ys.length≤sizeLine):
  Inv X pins σ (upd H s.heap.objs.size (.lst ys)) { s with heap:=s.heap.push { cls:=.type "list",data:=.seq its.toArray },toks:=t' }:=
 I.laid (λ_ _ q=>Heap.get?_push_of_some _ q) (aa4 _) ⟨hz,its,0,hv,Heap.get?_push_size _ rfl⟩
theorem Inv.fresh (I:Inv X pins σ H s):H s.heap.objs.size=none:=I.hok.fresh (aa4 _)
theorem Inv.Dk (I:Inv X pins σ H s) (hH:H l=some (.lst xs)):xs.length≤sizeLine∧∃(its:List Value) (n:Nat),Vals xs its∧xs.length=its.length∧s.heap.get? l=some { cls:=.type "list",data:=.seq its.toArray n }:=by
 obtain ⟨z,its,n,r,e⟩:=I.hok l _ hH;exact ⟨z,its,n,r,r.length,e⟩
theorem Bt {n:Nat} (h:n≤sizeLine):Builtin.List.listTooLong n=false:=by
 unfold Builtin.List.listTooLong;exact decide_eq_false (by omega)
end
section
variable {X:Cx}
def mq:V→List V→Hp→VK→Prop:=λx vs H Q=>∃l xs y,x=.ref l∧vs=[y]∧H l=some (.lst xs)∧xs.length < sizeLine∧Q .non (upd H l (.lst (xs++[y])))
theorem xo:MtM X "list.append" mq:=by
 intro pins s σ H x vs v us Q I rx rv h;obtain ⟨l,xs,y,rfl,rfl,hH,hz,q⟩:=h;cases rx
 obtain ⟨u,rfl,ru⟩:=rv.one;obtain ⟨z,its,n,r,hl,e⟩:=I.Dk hH;refine call_meets F.slot_list_append ⟨_,e,rfl⟩ F.entry_list_append (F.args_list_append_2 _ _) (PySem.list_append l its.toArray n u (by rw[aa5];omega)) ⟨e,?_⟩;refine ⟨.non,_,I.lset (its':=its++[u]) hH e (by simp) (r.append (.cons ru .nil)) ?_,rfl,q⟩;rw[aa2,aac];omega
def Pk:V→List V→Hp→VK→Prop:=λx vs H Q=>∃l b xs zs,x=.ref l∧vs=[.ref b]∧H l=some (.lst xs)∧H b=some (.lst zs)∧xs.length+zs.length≤sizeLine∧Q .non (upd H l (.lst (xs++zs)))
theorem k8:MtM X "list.extend" Pk:=by
 intro pins s σ H x vs v us Q I rx rv h;obtain ⟨l,b,xs,zs,rfl,rfl,hH,hB,hz,q⟩:=h;cases rx
 obtain ⟨u,rfl,ru⟩:=rv.one;cases ru
 obtain ⟨z,its,n,r,hl,e⟩:=I.Dk hH;obtain ⟨z2,its2,n2,r2,hl2,e2⟩:=I.Dk hB;have hsz:its.toArray.size+its2.toArray.size≤sizeLine:=by rw[aa5,aa5];omega
 have hlong:¬(!its.toArray.isEmpty&&Builtin.List.listTooLong (its.toArray.size+its2.toArray.size))=true:=by
  rw[Bt hsz,adk];exact aaj
 refine call_meets F.slot_list_extend ⟨_,e,rfl⟩ F.entry_list_extend (F.args_list_extend_2 _ _)
  (AutoSeq1.list_extend_list_list_0 l its.toArray n b its2.toArray n2 hlong (by rw[aa5];omega) (by omega)) ⟨e,e2,?_⟩
 refine ⟨.non,_,I.lset (its':=its++its2) hH e (by simp) (r.append r2) ?_,rfl,q⟩;rw[aa2];omega
def rPop:V→List V→Hp→VK→Prop:=λx vs H Q=>∃l xs y,x=.ref l∧vs=[]∧H l=some (.lst xs)∧xs[xs.length - 1]?=some y∧Q y (upd H l (.lst xs.dropLast))
theorem oo:MtM X "list.pop" rPop:=by
 intro pins s σ H x vs v us Q I rx rv h;obtain ⟨l,xs,y,rfl,rfl,hH,hy,q⟩:=h;cases rx
 have hus:=rv.zero;subst hus;obtain ⟨z,its,n,r,hl,e⟩:=I.Dk hH;obtain ⟨u,hu,ru⟩:=r.get hy;have hy':its.toArray[its.toArray.size - 1]?=some u:=by
  show its.toArray[its.length - 1]?=some u
  rw[←ada,←hl];exact hu
 refine call_meets F.slot_list_pop ⟨_,e,rfl⟩ F.entry_list_pop (F.args_list_pop_1 _) (MeetsSeq.list_pop_last l its.toArray n u hy' (by rw[aa5];omega)) ⟨e,?_⟩;refine ⟨y,_,I.lset (its':=its.dropLast) hH e ?_ r.dropLast ?_,ru,q⟩
 ·show its.toArray.eraseIdxIfInBounds (its.toArray.size - 1)=its.dropLast.toArray
  rw[aa5,List.eraseIdxIfInBounds_toArray,Ej]
 ·rw[adg];omega
def rCat:R2:=λx y H Q=>∃l b xs zs,x=.ref l∧y=.ref b∧H l=some (.lst xs)∧H b=some (.lst zs)∧xs.length+zs.length≤sizeLine∧∀p,H p=none→Q (.ref p) (upd H p (.lst (xs++zs)))
theorem op_cat:OpR X (binaryOp .Add) rCat:=by
 intro pins s σ H x y v u Q I rx ry h;obtain ⟨l,b,xs,zs,rfl,rfl,hH,hB,hz,q⟩:=h;cases rx
 cases ry
 obtain ⟨z,its,n,r,hl,e⟩:=I.Dk hH;obtain ⟨z2,its2,n2,r2,hl2,e2⟩:=I.Dk hB;refine PySem.P.add_list e e2 ?_ (by rw[aa5,aa5];omega);have ea:its.toArray++its2.toArray=(its++its2).toArray:=by simp
 rw[ea];exact ⟨.ref _,_,I.lnew (t':=s.toks) (r.append r2) (by rw[aa2];omega),rfl,q _ I.fresh⟩
def rRep:R2:=λx y H Q=>∃l k xs,x=.ref l∧y=.int k∧H l=some (.lst xs)∧-(2 ^ 63)≤k∧k < 2 ^ 63∧xs.length*k.toNat≤sizeLine∧
 ∀p,H p=none→Q (.ref p) (upd H p (.lst (aak k.toNat xs).flatten))
theorem len_rep {α:Type} (xs:List α) (k:Nat):(aak k xs).flatten.length=k*xs.length:=by
 induction k with
 | zero=>simp
 | succ k ih=>rw[ab5,abx,aa2,ih,Nat.succ_mul,adz]
theorem op_rep:OpR X (binaryOp .Mult) rRep:=by
 intro pins s σ H x y v u Q I rx ry h;obtain ⟨l,k,xs,rfl,rfl,hH,h1,h2,hz,q⟩:=h;cases rx
 obtain ⟨t,rfl⟩:=ry;obtain ⟨z,its,n,r,hl,e⟩:=I.Dk hH;have hlen:its.toArray.size*k.toNat≤sizeLine:=by rw[aa5,←hl];exact hz
 have hcap:¬its.toArray.size*k.toNat > (2 ^ 63 - 1) / 8:=by
  have:(sizeLine:Nat)≤(2 ^ 63 - 1) / 8:=by decide
  omega
 have hfit:¬(!Builtin.List.listFitsIndex k)=true:=by
  rw[fitsIndex_both h1 h2];exact aaj
 have hlong:¬Builtin.List.listTooLong (its.toArray.size*k.toNat)=true:=by
  rw[Bt hlen];exact aaj
 have hnew:af3 (λx1 x2=>x1++x2) #[] (aak (if its.toArray.isEmpty=true then 0 else k.toNat) its.toArray)=(aak k.toNat its).flatten.toArray:=by
  have f0:∀m:Nat,af3 (λx1 x2=>x1++x2) #[] (aak m its.toArray)=(aak m its).flatten.toArray:=λm=>by
   have:=foldl_rep its m [];rw[af5] at this;exact this
  rw[f0];cases its with
  | nil=>simp
  | cons a r'=>rw[if_neg (by simp)]
 refine wpAny_binaryOp_repeat_ref (T:="list") (U:="int") (by decide) ⟨_,e,rfl⟩ (λs'=>typeIs_int s' k t) noFill_list_mul F.fills_int_mul F.slot_int_rmul repeat_list F.slot_int_index.lookup
  (call_meets F.slot_int_rmul (typeIs_int s k t) F.entry_int_rmul (F.args_int_rmul_2 _ _) (int___rmul___int_list k t l its.toArray n)
   ⟨e,rfl,⟨_,e,rfl⟩,call_meets F.slot_list_mul ⟨_,e,rfl⟩ F.entry_list_mul (F.args_list_mul_2 _ _) (AutoListH.list___mul___list_int_3 l its.toArray n k t hfit hcap hlong) ⟨e,?_⟩⟩)
 rw[hnew];exact ⟨.ref _,_,I.lnew (t':=s.toks) (r.rep k.toNat) (by rw[len_rep,Nat.mul_comm];exact hz),rfl,q _ I.fresh⟩
end
section
variable {prog:Program} {w:World} {A:Around} {E:Value→Shared→Prop} {s:Shared}
set_option maxRecDepth 100000 in
end
end L2
namespace Att
open PySem PySem.W PySem.Calls PyProof.Rows
theorem rg {P:Params} {h:Heap}:∀(ns:List Int) (vs:List Value),WellAll P h vs (ns.map WData.int)→IntsAre vs ns:=by
 intro ns;induction ns with
 | nil=>
  intro vs w;rw[adf] at w;cases w
  exact .nil
 | cons n ns ih=>
  intro vs w;rw[aaw] at w;cases w with
  | cons a b=>
   cases a
   exact .cons _ _ (ih _ b)
theorem Hr {l:OpenLaw} {n:Nat} (hn:l.most=some n) {P:Params} {h:Heap} {args:List WData} {vals:List Value}
  (hpre:l.row.toRowW.claim.pre args=true) (hwl:WellAll P h vals args):
  ∃a vs ns,vals=[Value.ref a]∧args=[WData.list (ns.map WData.int)]∧h.get? a=some { cls:=.type "list",data:=.seq vs.toArray }∧IntsAre vs ns∧ns.length≤n:=by
 have hsh:WShape.hasAll [] args [.list .int]=true:=(pre_splitW hpre).1;have hc:l.pre.holds [] { args:=args }=true:=(pre_splitW hpre).2;obtain ⟨d,r,rfl,h1,h2⟩:=hasAllW_cons hsh;obtain rfl:=hasAllW_nil h2;obtain ⟨xs,rfl,h3⟩:=hasW_list h1;obtain ⟨ns,rfl⟩:=items_int h3;have hlen:ns.length≤n:=by
  unfold OpenLaw.pre at hc;have h4:(WTm.not (.lt (.lit (.int (n:Int))) (.len (.arg 0)))).holds [] { args:=[.list (ns.map .int)] }=true:=by
   have h4:=(holds_andW hc).1;rw[hn] at h4;exact h4
  have h5:=condW_of h4 (w_not (w_lt w_lit (w_len_list (w_arg rfl))));rw[aa1] at h5;refine aev λq=>?_;have q':(n:Int) < ((ns.length:Nat):Int):=by omega
  first
   | (rw[decide_eq_true q'] at h5;exact absurd h5 (by decide))
   | (simp at h5;omega)
 cases hwl with
 | cons w1 w2=>
  cases w2
  cases w1 with
  | list ho hall=>exact ⟨_,_,ns,rfl,rfl,ho,rg ns _ hall,hlen⟩
theorem Hb (l:OpenLaw) (args:List WData):l.row.toRowW.claim.post args (.bool true) args=true:=
 postW_of (r:=l.row.toRowW) (X:=(true==true))
  (show WShape.has [] (.bool true) .bool=true by first | rfl | decide | simp[WShape.has,WShape.arms,WShape.armsAll])
  (show (WTm.eq .res (.lit (.bool true))).value [] { args:=args,res:=some (.bool true),after:=args }=some (.bool (true==true)) from w_eq_bool (w_res rfl) w_lit) rfl
theorem Dd {l:OpenLaw} {n:Nat} {q:Program} {loose:List Str} {XP:(Str→Option Value)→Heap→Prop} {YP:World→Heap→Prop} {d:DefRec}
  (hn:l.most=some n) (hdf:d.params.defaults=[])
  (call:∀(w:World) (s₀ s₁:Shared) (mg mb:Str→Option Value) (fa:Addr) (o:Obj) (pm cd doc:Value) (a:Addr) (vs:List Value) (ns:List Int),
   Ground q loose [] XP w s₀ mg mb s₁.heap→YP w s₁.heap→
   s₁.heap.get? fa=some o→o.data=.func (docDef d.name d.params d.body d.scope pm cd doc)→s₁.heap.CodeRec cd d.name→mg d.name=some (.ref fa)→
   s₁.heap.get? a=some { cls:=.type "list",data:=.seq vs.toArray }→IntsAre vs ns→ns.length≤n→s₁.gens=#[]→
   codeAny (model l.prog w) callerA (.call (.ref fa) ⟨[.ref a],[]⟩) (λr s'=>r=.ok (.ret (.bool true))∧OldK s₁.heap s'.heap∧s'.os=s₁.os∧AllBare s'.gens) s₁):
  WalkO q loose XP YP l.row.toRowW d [] (λf vs=>PySem.call f vs):=by
 intro w s₀ s₁ mg mb G Y fa o pm cd doc dV kV ho hd hcd hD hmg hg args vals as hpre hlay hrd hwl hlo;obtain rfl:dV=.none:=Dflts.none hD hdf;obtain rfl:kV=.none:=Dflts.noKw hD;obtain ⟨a,vs,ns,rfl,rfl,hobj,hints,hlen⟩:=Hr hn hpre hwl;refine enter_call (codeAny_mono (call w s₀ s₁ mg mb fa o pm cd doc a vs ns G Y ho (fd_plain hd) hcd hmg hobj hints hlen hg) λr s' hq=>?_);obtain ⟨rfl,h2,h3,h4⟩:=hq;exact ⟨.inl ⟨.bool true,.bool true,[],rfl,λ_=>rfl,.bool true,Hb l _,λ_=>⟨aes,λ_ hm=>(nomatch hm)⟩⟩,h2,h3,h4⟩
end Att
namespace L2
open PySem PySem.Spec PyProof.Rows
theorem xa:∀{vs:List Value} {ns:List Int},IntsAre vs ns→Vals (ns.map V.int) vs
 | _,_,.nil=>.nil
 | _,_,.cons n t h=>.cons ⟨t,rfl⟩ (xa h)
def Only (H:Hp):Prop:=∀b,H b=none∨∃o xs,H b=some (.frz o (.lst xs))
theorem Lm {P:Program} {w:World} {K:PySem.W.Frag} {mg mb:Str→Option Value} {CX:CXT} {k:Nat} {fa a:Addr} {fd:FuncData} {x:Str} {sp:Sp} {s₁:Shared} {vs:List Value} {ns:List Int}
  (KX:K.In s₁.heap) (hns:s₁.heap.Ns mainGlobals mg) (hb:s₁.heap.Ns builtinsNs mb) (hbb:∀x:Str,x≠"__name__"→mb x=bootBuiltins x) (hlim:s₁.heap.NoLimit) (hg:s₁.gens=#[])
  (ha:s₁.heap.get? a=some { cls:=.type "list",data:=.seq vs.toArray }) (hi:IntsAre vs ns) (hl:ns.length≤sizeLine) (hr:fm k callerA)
  (F:∀base:Heap,K.In base→base.Ns mainGlobals mg→l9 P w K mg base CX k fa fd [x] sp) (hbind:∀(s:Shared) (u:Value),BindsTo s fd ⟨[u],[]⟩ [(x,u)])
  (hsp:∀H:Hp,Only H→SqL K H a (ns.map V.int)→sp [.ref a] H (λv _=>v=.bl true) λ_ _ _=>False)
  (hCX:∀H e s',CX [] H s₁ (λ_ _ _=>False) e s'→False):
  codeAny (model P w) callerA (.call (.ref fa) ⟨[.ref a],[]⟩) (λr s'=>r=.ok (.ret (.bool true))∧OldK s₁.heap s'.heap∧s'.os=s₁.os∧AllBare s'.gens) s₁:=by
 have rv:=xa hi;have lenV:=hi.length;have core:∀H:Hp,Only H→SqL K H a (ns.map V.int)→HOk P w H s₁.heap→(∀b,H b≠none→b=a)→(H a≠none→K.lookup a=none)→
   codeAny (model P w) callerA (.call (.ref fa) ⟨[.ref a],[]⟩) (λr s'=>r=.ok (.ret (.bool true))∧OldK s₁.heap s'.heap∧s'.os=s₁.os∧AllBare s'.gens) s₁:=by
  intro H hO hS hok hA hK;have base_of:∀{b:Addr} {o:Obj},s₁.heap.get? b=some o→H b=none→(Ac s₁.heap H).get? b=some o:=λe n=>Mn e n;have noA:∀{b:Addr} {o:Obj} {es:Array DictEntry} {ep:Nat},s₁.heap.get? b=some o→o.data=.dict es ep→H b=none:=λ{b o es ep} e d=>by
   cases q:H b with
   | none=>rfl
   | some u=>
    have e':b=a:=hA b (by rw[q];simp);subst e';rw[ha] at e;cases e;have d':Data.seq vs.toArray _=Data.dict es ep:=d;cases d'
  have nsK:∀{b:Addr} {m:Str→Option Value},s₁.heap.Ns b m→(Ac s₁.heap H).Ns b m:=λ{b m} ⟨o,es,ep,e,d,r⟩=>⟨o,es,ep,base_of e (noA e d),d,r⟩;have hKb:K.In (Ac s₁.heap H):=λb o e=>base_of (KX b o e) (by
   cases q:H b with
   | none=>rfl
   | some u=>
    have e':b=a:=hA b (by rw[q];simp);subst e';rw[hK (by rw[q];simp)] at e;cases e)
  have hM:Mod K mg (Ac s₁.heap H):=⟨hKb,nsK hns,⟨mb,nsK hb,hbb⟩,let ⟨mc,h1,h2⟩:=hlim;⟨mc,nsK h1,h2⟩⟩;have e0:Env0 P w K mg (Ac s₁.heap H) callerA [] s₁ H:=⟨rfl,hM,λb o e=>Nt e,Nat.le_of_eq (Ho _ _),trivial,λb hb=>absurd (show b∈([]:List Addr) from hb) (by simp),hok,.of_eq hg⟩;refine codeAny_mono ((F _ hKb (nsK hns)).run callerA [] s₁ H ⟨[.ref a],[]⟩ [.ref a] [.ref a] _ _ hr e0 (hbind s₁ (.ref a)) (.cons rfl .nil) (hsp H hO hS)) λr s' h=>?_;cases r with
  | error e=>exact (hCX H e s' h).elim
  | ok fl=>
   cases fl with
   | next=>exact False.elim h
   | brk=>exact False.elim h
   | cont=>exact False.elim h
   | ret u=>
    obtain ⟨v,H',os,bare,un,hok',r',q⟩:=h;have q':v=.bl true:=q;subst q';obtain rfl:u=Value.bool true:=r';refine ⟨rfl,OldK.of_keep λb o e=>?_,os,bare⟩;cases q:H b with
    | none=>exact un.keep b o e q (by intro z;exact absurd (show b∈([]:List Addr) from z) (by simp)) (by simp)
    | some u=>
     rcases hO b with z | ⟨ob,xs,z⟩
     ·rw[q] at z;cases z
     ·have z2:=un.frzs b ob _ z;obtain ⟨e1,_⟩:=hok b _ z;obtain ⟨e2,_⟩:=hok' b _ z2;rw[e] at e1;cases e1;exact e2
 cases hk:K.lookup a with
 | some o=>
  have e:=KX a o hk;rw[ha] at e;cases e
  refine core (λ_=>none) (λ_=>.inl rfl) (.inr ⟨_,vs.toArray,_,hk,rfl,rfl,rfl,by rw[aa5,lenV];exact hl,by simpa using rv⟩) (λb u z=>by have z':(none:Option HO)=some u:=z;cases z') (λb z=>absurd rfl z) λz=>absurd rfl z
 | none=>
  refine core (λb=>if b=a then some (.frz { cls:=.type "list",data:=.seq vs.toArray } (.lst (ns.map V.int))) else none) (λb=>?_) (.inl (.inr ⟨{ cls:=.type "list",data:=.seq vs.toArray },if_pos rfl⟩)) (λb u z=>?_) (λb z=>?_) λ_=>hk
  ·by_cases hb:b=a
   ·exact .inr ⟨_,_,if_pos hb⟩
   ·exact .inl (if_neg hb)
  ·by_cases hb:b=a
   ·have z':=(if_pos hb).symm.trans z;cases z'
    subst hb;exact ⟨ha,by rw[aa1];exact hl,vs,_,rv,ha⟩
   ·have z':=(if_neg hb).symm.trans z;cases z'
  ·by_cases hb:b=a
   ·exact hb
   ·exact absurd (if_neg hb) z
noncomputable abbrev KOf {K:PySem.W.Frag} {h:Heap} (_:K.In h):PySem.W.Frag:=K
theorem P0 {l:PySem.W.OpenLaw} {n k:Nat} {q:Program} {loose:List Str} {XP:(Str→Option Value)→Heap→Prop} {YP:World→Heap→Prop} {d:DefRec} {K:Params→PySem.W.Frag} {CX:World→CXT} {sp:World→Sp} {x:Str}
  (hn:l.most=some n) (hn2:n≤sizeLine) (hdf:d.params.defaults=[]) (hr:fm k callerA)
  (hY:∀(w:World) (h:Heap),YP w h→(K w.params).In h)
  (F:∀(w:World) (mg:Str→Option Value) (fa:Addr) (h:Heap),(K w.params).In h→h.Ns mainGlobals mg→mg d.name=some (.ref fa)→
   ∃fd:FuncData,(∀(s:Shared) (u:Value),BindsTo s fd ⟨[u],[]⟩ [(x,u)])∧
    ∀base:Heap,(K w.params).In base→base.Ns mainGlobals mg→l9 l.prog w (K w.params) mg base (CX w) k fa fd [x] (sp w))
  (hsp:∀(w:World) (H:Hp) (a:Addr) (ns:List Int),ns.length≤n→Only H→SqL (K w.params) H a (ns.map V.int)→sp w [.ref a] H (λv _=>v=.bl true) λ_ _ _=>False)
  (hCX:∀(w:World) (H:Hp) (s:Shared) (e:Value) (s':Shared),CX w [] H s (λ_ _ _=>False) e s'→False):
  PySem.W.WalkO q loose XP YP l.row.toRowW d [] (λf vs=>PySem.call f vs):=by
 refine Att.Dd hn hdf λw s₀ s₁ mg mb fa o pm cd doc a vs ns G Y ho hd hcd hmg hobj hints hlen hg=>?_;have KX:=hY w _ Y;obtain ⟨fd,hb,hF⟩:=F w mg fa _ KX G.T.g hmg;exact Lm KX G.T.g G.T.b G.T.builtins G.T.nolimit hg hobj hints (aar hlen hn2) hr hF hb (λH hO hS=>hsp w H a ns hlen hO hS) λH e s'=>hCX w H s₁ e s'
noncomputable def dg (s:Stmt):Arguments:=match s with
 | .FunctionDef _ a _ _ _ _ _ _ _ _=>a
 | _=>{ posonlyargs:=[],args:=[],vararg:=none,kwonlyargs:=[],kw_defaults:=[],kwarg:=none,defaults:=[] }
noncomputable def cg (s:Stmt):List Stmt:=match s with
 | .FunctionDef _ _ b _ _ _ _ _ _ _=>b
 | _=>[]
noncomputable def ak (s:Stmt):Scope:=match s with
 | .FunctionDef _ _ _ _ _ _ sc _ _ _=>sc
 | _=>{ kind:=.function,names:=[],isGenerator:=false,isCoroutine:=false }
noncomputable abbrev CX0:CXT:=λ_ _ _ _ _ _=>False
abbrev E0:XK:=λ_ _ _=>False
theorem pass0 {X:Cx}:Passes CX0 X E0:=λ_ _ _ _ _ _ _ h=>h.elim
structure Fun (K:PySem.W.Frag) (x qual:Str) (st:Stmt) (f:Addr) (fd:FuncData):Prop where
 ex:∃(oc:Value) (od:Option Addr) (kV doc pm:Value) (an:Option Addr) (cdv ct:Value) (osl:Array (Option Value)),
  fd=PySem.W.fnOf x qual (dg st) (cg st) (ak st) .none kV doc pm an cdv ct∧K.lookup f=some ⟨oc,od,.func fd,osl⟩∧PySem.W.codeIn K cdv qual=true
 kp:PySem.W.keepIn K (.ref f)=true
section
variable {P:Program} {w:World} {K:PySem.W.Frag} {mg:Str→Option Value} {base:Heap}
theorem Fun.ok {x qual:Str} {st:Stmt} {f:Addr} {fd:FuncData} {N ps:List Str} {k:Nat} {sp:Sp} (F:Fun K x qual st f fd) (S:av N ps (ak st)) (len:∀vs H Q E,sp vs H Q E→vs.length=ps.length)
  (hbody:∀(cdv:Value) (A:Around) (outer:List Env) (s:Shared) (H:Hp) (vs:List V) (Q:VK) (E:XK),fm k (A.deeper (envOfC qual (ak st) s.heap.objs.size f cdv))→sp vs H Q E→
   ∃t,PSs (ma CX0 P w K mg base N qual (ak st) f cdv A outer s H E).nox (cg st) t∧t { nx:=λ_ H'=>Q .non H',rt:=Q } (start N vs) H):l9 P w K mg base CX0 (k+1) f fd ps sp:=by
 obtain ⟨oc,od,kV,doc,pm,an,cdv,ct,osl,rfl,lk,hcd⟩:=F.ex;refine fn_of lk hcd S len λA outer s H vs Q E hr hsp=>?_;obtain ⟨t,h,q⟩:=hbody cdv A outer s H vs Q E hr hsp;exact ⟨t,h.nox,q⟩
theorem Fun.binds {x qual:Str} {st:Stmt} {f:Addr} {fd:FuncData} {ps:List Str} (F:Fun K x qual st f fd)
  (h:∀(kV doc pm:Value) (an:Option Addr) (cdv ct:Value) (us:List Value),us.length=ps.length→bindArgs (PySem.W.fnOf x qual (dg st) (cg st) (ak st) .none kV doc pm an cdv ct) ⟨us,[]⟩=pure (ps.zip us)):Binds K fd ps []:=by
 obtain ⟨oc,od,kV,doc,pm,an,cdv,ct,osl,rfl,lk,hcd⟩:=F.ex;exact .all (h kV doc pm an cdv ct)
theorem Em {x qual:Str} {st:Stmt} {f:Addr} {oc:Value} {od an:Option Addr} {osl:Array (Option Value)} {kV doc pm cdv ct:Value} (l:K.lookup f=some ⟨oc,od,.func (PySem.W.fnOf x qual (dg st) (cg st) (ak st) .none kV doc pm an cdv ct),osl⟩)
  (c:PySem.W.codeIn K cdv qual=true) (k:PySem.W.keepIn K (.ref f)=true):Fun K x qual st f (PySem.W.fnOf x qual (dg st) (cg st) (ak st) .none kV doc pm an cdv ct):=⟨⟨oc,od,kV,doc,pm,an,cdv,ct,osl,rfl,l,c⟩,k⟩
end
theorem b8 {A:Around} {k:Nat} (hr:fm k A):A.units+1 < cLine:=acu (Nat.add_le_add_left (by decide:1≤64) _) hr.units
section
variable {X:Cx}
theorem pv (i:Nat) {x:Str} {pos:Pos} (hN:X.N[i]?=some x:=by rfl) (hv:Vis X.env.scope x:=by first | exact ab1 rfl | exact ab2 (ab1 rfl) | exact ab2 (ab2 rfl)) (hd:(x==("__debug__":Str))=false:=by decide)
  (hcd:(x==("__classdict__":Str))=false:=by decide):PE X (.Name x pos) (tVar i):=pe_var hN hv hd hcd
end
theorem iteF {A B:Prop} (h:B):if false=true then A else B:=by
 rw[if_neg aaj];exact h
theorem iteT {A B:Prop} (h:A):if true=true then A else B:=by
 rw[if_pos rfl];exact h
theorem bz {c A B:Prop} [Decidable c] (h1:c→A) (h2:¬c→B):if c then A else B:=by
 by_cases h:c
 ·rw[if_pos h];exact h1 h
 ·rw[if_neg h];exact h2 h
def ah (H H':Hp):Prop:=∀b o,H b=some o→H' b=some o
theorem ah.refl (H:Hp):ah H H:=λ_ _ h=>h
theorem ah.trans {H H1 H2:Hp} (a:ah H H1) (b:ah H1 H2):ah H H2:=λc o h=>b c o (a c o h)
theorem ah.free {H H':Hp} (e:ah H H') {l:Addr} (h:H' l=Option.none):H l=Option.none:=by
 cases q:H l with
 | none=>rfl
 | some o=>
  rw[e l o q] at h;cases h
theorem ah.seq {K:PySem.W.Frag} {H H':Hp} {a:Addr} {xs:List V} (e:ah H H') (h:SqL K H a xs):SqL K H' a xs:=by
 rcases h with (h | ⟨o,h⟩) | h
 ·exact .inl (.inl (e _ _ h))
 ·exact .inl (.inr ⟨o,e _ _ h⟩)
 ·exact .inr h
section
variable {κ:Type} [DecidableEq κ]
noncomputable def cu (kvs:List (κ×V)) (k:κ):Option V:=(kvs.find? λkv=>decide (kv.1=k)).map (·.2)
noncomputable def putK (kvs:List (κ×V)) (k:κ) (v:V):List (κ×V):=
 if (kvs.any λkv=>decide (kv.1=k))=true then kvs.map (λkv=>if kv.1=k then (kv.1,v) else kv) else kvs++[(k,v)]
theorem bw {p:κ×V} {r:List (κ×V)} {k:κ} (e:p.1=k):cu (p::r) k=some p.2:=by simp[cu,abw,e]
theorem bu {p:κ×V} {r:List (κ×V)} {k:κ} (e:¬p.1=k):cu (p::r) k=cu r k:=by simp[cu,abw,e]
theorem eh (k:κ):∀kvs:List (κ×V),(kvs.any λkv=>decide (kv.1=k))=(cu kvs k).isSome
 | []=>rfl
 | p::r=>by
  rw[ad9];by_cases e:p.1=k
  ·simp only[bw e,decide_eq_true e,Bool.true_or,acv]
  ·rw[bu e,decide_eq_false e,Bool.false_or];exact eh k r
theorem Cg (k j:κ) (y:V):∀kvs:List (κ×V),cu (kvs.map λkv=>if kv.1=k then (kv.1,y) else kv) j=(cu kvs j).map λx=>if j=k then y else x
 | []=>rfl
 | p::r=>by
  have ih:=Cg k j y r;rw[aaw];by_cases h:p.1=k
  ·rw[if_pos h];by_cases e:p.1=j
   ·rw[bw (p:=(p.1,y)) e,bw e,adh,if_pos (e.symm.trans h)]
   ·rw[bu (p:=(p.1,y)) e,bu e,ih]
  ·rw[if_neg h];by_cases e:p.1=j
   ·rw[bw (p:=p) e,bw e,adh,if_neg (λz=>h (e.trans z))]
   ·rw[bu (p:=p) e,bu e,ih]
theorem ya (k j:κ) (y:V):∀kvs:List (κ×V),cu kvs k=none→cu (kvs++[(k,y)]) j=if j=k then some y else cu kvs j
 | [],_=>by
  by_cases e:k=j
  ·rw[if_pos e.symm];exact bw (p:=(k,y)) e
  ·rw[if_neg (λz=>e z.symm)];exact bu (p:=(k,y)) e
 | p::r,hn=>by
  rw[aew];have hk:¬p.1=k:=λz=>by rw[bw z] at hn;cases hn
  rw[bu hk] at hn;have ih:=ya k j y r hn;by_cases e:p.1=j
  ·rw[bw e,bw e,if_neg (λz=>hk (e.trans z))]
  ·rw[bu e,bu e,ih]
theorem Mc (kvs:List (κ×V)) (k j:κ) (y:V):cu (putK kvs k y) j=if j=k then some y else cu kvs j:=by
 unfold putK;by_cases a:(kvs.any λkv=>decide (kv.1=k))=true
 ·rw[if_pos a,Cg];rw[eh] at a;by_cases e:j=k
  ·obtain ⟨x,hx⟩:=Option.isSome_iff_exists.mp a;rw[if_pos e,e,hx,adh,if_pos rfl]
  ·rw[if_neg e];cases cu kvs j with
   | none=>rfl
   | some x=>rw[adh,if_neg e]
 ·rw[if_neg a];refine ya k j y kvs ?_;rw[eh] at a;cases q:cu kvs k with
  | none=>rfl
  | some x=>rw[q] at a;exact (a rfl).elim
theorem gd (kvs:List (κ×V)) (k:κ) (v:V):(putK kvs k v).length≤kvs.length+1:=by
 unfold putK;split
 ·rw[aa1];omega
 ·rw[aa2,aai,acf];omega
theorem Bm {kvs:List (κ×V)} {k:κ} (v:V) (h:cu kvs k=none):putK kvs k v=kvs++[(k,v)]:=by
 unfold putK;rw[eh,h];exact if_neg (by decide)
theorem mh.gb {o:Option V} {u:Option Value} (r:mh o u):o.isSome=u.isSome:=by
 cases o with
 | none=>cases u with
  | none=>rfl
  | some _=>exact (show False from r).elim
 | some _=>cases u with
  | none=>exact (show False from r).elim
  | some _=>rfl
theorem mh.getD {o:Option V} {u:Option Value} {d:V} {d':Value} (r:mh o u) (rd:RelV d d'):RelV (o.getD d) (u.getD d'):=by
 cases o with
 | none=>cases u with
  | none=>exact rd
  | some _=>exact (show False from r).elim
 | some _=>cases u with
  | none=>exact (show False from r).elim
  | some _=>exact r
theorem KV.val {kvs:List (κ×V)} {vs:List (κ×Value)} (r:KV kvs vs) (k:κ):mh (cu kvs k) (valueAt vs k):=by
 unfold KV at r;induction r with
 | nil=>exact True.intro
 | @cons p q ps qs h t ih=>
  obtain ⟨h1,h2⟩:=h;by_cases e:p.1=k
  ·have e':q.1=k:=h1.symm.trans e;have b:valueAt (q::qs) k=some q.2:=by simp[valueAt,abw,e']
   rw[bw e,b];exact h2
  ·have e':¬q.1=k:=λz=>e (h1.trans z);have b:valueAt (q::qs) k=valueAt qs k:=by simp[valueAt,abw,e']
   rw[bu e,b];exact ih
theorem KV.any {kvs:List (κ×V)} {vs:List (κ×Value)} (r:KV kvs vs) (k:κ):(kvs.any λkv=>decide (kv.1=k))=vs.any λkv=>decide (kv.1=k):=by
 unfold KV at r;induction r with
 | nil=>rfl
 | cons h t ih=>rw[ad9,ad9,ih,h.1]
theorem KV.repl {kvs:List (κ×V)} {vs:List (κ×Value)} (r:KV kvs vs) (k:κ) {y:V} {u:Value} (ry:RelV y u):
  KV (kvs.map λkv=>if kv.1=k then (kv.1,y) else kv) (vs.map λkv=>if kv.1=k then (kv.1,u) else kv):=by
 unfold KV at r ⊢;induction r with
 | nil=>exact .nil
 | @cons p q ps qs h t ih=>
  rw[aaw,aaw];refine .cons ?_ ih;obtain ⟨h1,h2⟩:=h;by_cases e:p.1=k
  ·rw[if_pos e,if_pos (h1.symm.trans e)];exact ⟨h1,ry⟩
  ·rw[if_neg e,if_neg (λz=>e (h1.trans z))];exact ⟨h1,h2⟩
theorem KV.put {kvs:List (κ×V)} {vs:List (κ×Value)} (r:KV kvs vs) (k:κ) {y:V} {u:Value} (ry:RelV y u):KV (putK kvs k y) (stored vs k u):=by
 unfold putK stored;rw[r.any k];by_cases e:(vs.any λkv=>decide (kv.1=k))=true
 ·rw[if_pos e,if_pos e];exact r.repl k ry
 ·rw[if_neg e,if_neg e];exact Paired.snoc r ⟨rfl,ry⟩
theorem KV.length {kvs:List (κ×V)} {vs:List (κ×Value)} (r:KV kvs vs):kvs.length=vs.length:=Paired.length r
end
theorem jo {P:Program} {w:World} {k:Key} {u:Value} (r:RelV (kV k) u):(ay P w).is k u=true:=by
 cases k with
 | inl i=>obtain ⟨t,e⟩:=(show ∃t,u=Value.int i t from r);subst e;exact Bp P w i t
 | inr x=>obtain ⟨t,e⟩:=(show ∃t,u=Value.str x t from r);subst e;exact kg P w x t
theorem oz {P:Program} {w:World}:∀{ks:List Key} {us:List Value},Vals (ks.map kV) us→ItemsAre (ay P w) ks us
 | [],_,r=>by rw[adf] at r;cases r;exact .nil
 | k::ks,_,r=>by
  rw[aaw] at r;cases r with
  | cons h t=>exact .cons (jo h) (oz t)
abbrev KT (H:Hp):List (List Key×V)→List (List Key×Addr×Value)→Prop:=Paired λp q=>p.1=q.1∧H q.2.1=some (.tup (p.1.map kV))∧RelV p.2 q.2.2
theorem KT.val {H:Hp} {kvs:List (List Key×V)} {xs:List (List Key×Addr×Value)} (r:KT H kvs xs) (k:List Key):mh (cu kvs k) ((atKey xs k).map (·.2)):=by
 induction r with
 | nil=>exact True.intro
 | @cons p q ps qs h t ih=>
  obtain ⟨h1,_,h2⟩:=h;by_cases e:p.1=k
  ·have e':q.1=k:=h1.symm.trans e;have b:atKey (q::qs) k=some q.2:=by simp[atKey,abw,e']
   rw[bw e,b];exact h2
  ·have e':¬q.1=k:=λz=>e (h1.trans z);have b:atKey (q::qs) k=atKey qs k:=by simp[atKey,abw,e']
   rw[bu e,b];exact ih
theorem KT.repl {H:Hp} {kvs:List (List Key×V)} {xs:List (List Key×Addr×Value)} (r:KT H kvs xs) (k:List Key) {y:V} {u:Value} (ry:RelV y u):
  KT H (kvs.map λkv=>if kv.1=k then (kv.1,y) else kv) (xs.map (putAt k u)):=by
 induction r with
 | nil=>exact .nil
 | @cons p q ps qs h t ih=>
  rw[aaw,aaw];refine .cons ?_ ih;obtain ⟨h1,h2,h3⟩:=h;unfold putAt;by_cases e:p.1=k
  ·rw[if_pos e,if_pos (h1.symm.trans e)];exact ⟨h1,h2,ry⟩
  ·rw[if_neg e,if_neg (λz=>e (h1.trans z))];exact ⟨h1,h2,h3⟩
theorem KT.put {H:Hp} {kvs:List (List Key×V)} {xs:List (List Key×Addr×Value)} (r:KT H kvs xs) (k:List Key) {b:Addr} {y:V} {u:Value} (hb:H b=some (.tup (k.map kV))) (ry:RelV y u):
  KT H (putK kvs k y) (storedH xs k b u):=by
 have e:(kvs.any λkv=>decide (kv.1=k))=(atKey xs k).isSome:=by
  rw[eh,(r.val k).gb,aci]
 unfold putK storedH;rw[e];by_cases q:(atKey xs k).isSome=true
 ·rw[if_pos q,if_pos q];exact r.repl k ry
 ·rw[if_neg q,if_neg q];exact Paired.snoc r ⟨rfl,hb,ry⟩
theorem KT.keeps {H H':Hp} {kvs:List (List Key×V)} {xs:List (List Key×Addr×Value)} (r:KT H kvs xs) (ht:∀b ys,H b=some (.tup ys)→H' b=some (.tup ys)):KT H' kvs xs:=
 Paired.mapP r λ_ _ z=>⟨z.1,ht _ _ z.2.1,z.2.2⟩
section
variable {P:Program} {w:World} {H:Hp} {h:Heap} {a:Addr}
theorem rd_of {u:HO} (ok:HOk P w H h) (e:Rd H a u):b7 P w H h a u:=e.ok ok
theorem Cu {kvs:List (Key×V)} (ok:HOk P w H h) (e:Rd H a (.dK kvs)):kvs.length≤sizeLine∧(a==sysModules)=false∧∃vs,KV kvs vs∧h.DictOf (ay P w) a vs:=
 show b7 P w H h a (.dK kvs) from rd_of ok e
theorem dk_of {kvs:List (Key×V)} (ok:HOk P w H h) (e:H a=some (.dK kvs)):kvs.length≤sizeLine∧(a==sysModules)=false∧∃vs,KV kvs vs∧h.DictOf (ay P w) a vs:=Cu ok (.inl e)
theorem va {ks:List Key} (ok:HOk P w H h) (e:H a=some (.tup (ks.map kV))):(tupleKind (ay P w)).is h ks a:=by
 obtain ⟨_,its,r,o,h1,h2,n,h3,_⟩:=(show b7 P w H h a (.tup (ks.map kV)) from ok a _ e);exact ⟨o,its.toArray,n,h1,h2,h3,by simpa using oz r⟩
theorem Be {kvs:List (List Key×V)} (ok:HOk P w H h) (e:Rd H a (.dT kvs)):kvs.length≤sizeLine∧(a==sysModules)=false∧
  ∃xs,KT H kvs xs∧h.DictOfH (tupleKind (ay P w)) a xs:=by
 obtain ⟨z,y,xs,r,o,es,ep,h1,h2,h3,h4,h5⟩:=(show b7 P w H h a (.dT kvs) from rd_of ok e);refine ⟨z,y,xs,r,o,es,ep,h1,h2,h3,h4,λx hx=>?_,h5⟩;have all:∀{l:List (List Key×V)} {m:List (List Key×Addr×Value)},KT H l m→∀x∈m,(tupleKind (ay P w)).is h x.1 x.2.1:=by
  intro l m q;induction q with
  | nil=>intro x hx;exact nomatch hx
  | @cons p q ps qs hq t ih=>
   intro x hx;rcases List.mem_cons.mp hx with e | hx
   ·subst e;exact va ok (by rw[←hq.1];exact hq.2.1)
   ·exact ih x hx
 exact all r x hx
theorem dt_of {kvs:List (List Key×V)} (ok:HOk P w H h) (e:H a=some (.dT kvs)):kvs.length≤sizeLine∧(a==sysModules)=false∧
  ∃xs,KT H kvs xs∧h.DictOfH (tupleKind (ay P w)) a xs:=Be ok (.inl e)
end
def jv (H:Hp) (a:Addr) (y:V) (r:Option V):Prop:=
 (∃kvs k,Rd H a (.dK kvs)∧y=kV k∧r=cu kvs k)∨∃kvs k b,Rd H a (.dT kvs)∧y=.ref b∧H b=some (.tup (k.map kV))∧r=cu kvs k
def Aw (H:Hp) (a:Addr) (y v:V) (H':Hp):Prop:=
 (∃kvs k,H a=some (.dK kvs)∧y=kV k∧kvs.length < sizeLine∧H'=upd H a (.dK (putK kvs k v)))∨
 ∃kvs k b,H a=some (.dT kvs)∧y=.ref b∧H b=some (.tup (k.map kV))∧kvs.length < sizeLine∧H'=upd H a (.dT (putK kvs k v))
theorem jv.t {H:Hp} {a b:Addr} {kvs:List (List Key×V)} {k:List Key} (e:H a=some (.dT kvs)) (eb:H b=some (.tup (k.map kV))):jv H a (.ref b) (cu kvs k):=.inr ⟨kvs,k,b,.inl e,rfl,eb,rfl⟩
theorem Aw.t {H:Hp} {a b:Addr} {kvs:List (List Key×V)} {k:List Key} {v:V} (e:H a=some (.dT kvs)) (eb:H b=some (.tup (k.map kV))) (hl:kvs.length < sizeLine):
  Aw H a (.ref b) v (upd H a (.dT (putK kvs k v))):=.inr ⟨kvs,k,b,e,rfl,eb,hl,rfl⟩
section
variable {X:Cx} {pins:List (Addr×Obj)} {σ:St} {H:Hp} {s:Shared} {a:Addr} {y v:V} {u r:Value} {o:Option V} {A:Around} {E:Value→Shared→Prop}
theorem Inv.big (I:Inv X pins σ H s):sysModules < s.heap.objs.size:=by
 have h:mainGlobals < s.heap.objs.size:=(I.mod.glob.keeps I.bk).lt;exact ae0 (by decide) h
theorem Hx {Q:Value→Shared→Prop} (hu:A.units+1 < cLine) (I:Inv X pins σ H s) (g:jv H a y (some v)) (ry:RelV y u) (h:∀w' s',Inv X pins σ H s'→RelV v w'→Q w' s'):
  wpAny (model X.prog X.w) A (getItem (.ref a) u) Q E s:=by
 rcases g with ⟨kvs,k,e,ey,l⟩ | ⟨kvs,k,b,e,ey,eb,l⟩
 ·subst ey;obtain ⟨z,hd,vs,rel,dd⟩:=Cu I.hok e;obtain ⟨w',hw,rw'⟩:=mh.some_of (v:=v) (o:=valueAt vs k) (by rw[l];exact rel.val k);exact wpAny_getItem_of (jo ry) dd.mapOf hw (h w' _ (I.tok _) rw')
 ·subst ey;cases (show u=Value.ref b from ry)
  obtain ⟨z,hd,xs,rel,dd⟩:=Be I.hok e;obtain ⟨w',hw,rw'⟩:=mh.some_of (v:=v) (o:=(atKey xs k).map (·.2)) (by rw[l];exact rel.val k);obtain ⟨p,hp,hp2⟩:=Option.map_eq_some_iff.mp hw;refine wpAny_getItem_heap (tupleKind_room_in1 hu) (va I.hok eb) dd hp ?_;rw[hp2];exact h w' _ (I.tok _) rw'
theorem d_in {Q:Value→Shared→Prop} (hu:A.units+1 < cLine) (I:Inv X pins σ H s) (g:jv H a y o) (ry:RelV y u) (h:∀s',Inv X pins σ H s'→Q (.bool o.isSome) s'):
  wpAny (model X.prog X.w) A (compareOp .In u (.ref a)) Q E s:=by
 rcases g with ⟨kvs,k,e,ey,l⟩ | ⟨kvs,k,b,e,ey,eb,l⟩
 ·subst ey;obtain ⟨z,hd,vs,rel,dd⟩:=Cu I.hok e;refine wpAny_in_of (jo ry) hd dd.mapOf ?_;rw[←(rel.val k).gb,←l];exact h _ (I.tok _)
 ·subst ey;cases (show u=Value.ref b from ry)
  obtain ⟨z,hd,xs,rel,dd⟩:=Be I.hok e;refine wpAny_in_heap (tupleKind_room_in1 hu) (va I.hok eb) hd dd ?_;have q:=(rel.val k).gb;rw[aci] at q;rw[←q,←l];exact h _ (I.tok _)
theorem Ny {Q:Value→Shared→Prop} (hu:A.units+1 < cLine) (I:Inv X pins σ H s) (g:jv H a y o) (ry:RelV y u) (h:∀s',Inv X pins σ H s'→Q (.bool (!o.isSome)) s'):
  wpAny (model X.prog X.w) A (compareOp .NotIn u (.ref a)) Q E s:=by
 rcases g with ⟨kvs,k,e,ey,l⟩ | ⟨kvs,k,b,e,ey,eb,l⟩
 ·subst ey;obtain ⟨z,hd,vs,rel,dd⟩:=Cu I.hok e;refine wpAny_notIn_of (jo ry) hd dd.mapOf ?_;rw[←(rel.val k).gb,←l];exact h _ (I.tok _)
 ·subst ey;cases (show u=Value.ref b from ry)
  obtain ⟨z,hd,xs,rel,dd⟩:=Be I.hok e;refine wpAny_notIn_heap (tupleKind_room_in1 hu) (va I.hok eb) hd dd ?_;have q:=(rel.val k).gb;rw[aci] at q;rw[←q,←l];exact h _ (I.tok _)
theorem sg {h':Heap} {t':Nat} {ob:HO} (I:Inv X pins σ H s) (mu:Mut (H a)) (hs:Heap.SameBut a s.heap h') (he:∃q,h'.get? a=some q) (new:b7 X.prog X.w (upd H a ob) h' a ob):
  Inv X pins σ (upd H a ob) { s with heap:=h',toks:=t' }:=
 I.write (x:=a) (e:=a) mu (.inl rfl) (λb q hb z=>(hs.2 b hb).trans z) he new
theorem Jk {P:Program} {w:World} {H':Hp} {h':Heap} {kvs:List (Key×V)} {vs:List (Key×Value)} (z:kvs.length≤sizeLine) (hd:(a==sysModules)=false) (rel:KV kvs vs) (dd:h'.DictOf (ay P w) a vs):
  b7 P w H' h' a (.dK kvs):=⟨z,hd,vs,rel,dd⟩
theorem Ie {H':Hp} {Q:Unit→Shared→Prop} (hu:A.units+1 < cLine) (I:Inv X pins σ H s) (g:Aw H a y v H') (ry:RelV y u) (rv:RelV v r) (h:∀s',Inv X pins σ H' s'→Q () s'):
  wpAny (model X.prog X.w) A (setItem (.ref a) u r) Q E s:=by
 rcases g with ⟨kvs,k,e,ey,l,eH⟩ | ⟨kvs,k,b,e,ey,eb,l,eH⟩
 ·subst ey eH;obtain ⟨z,hd,vs,rel,dd⟩:=dk_of I.hok e;have hz:vs.length≤sizeLine:=by rw[←rel.length];exact z
  have hl:(putK kvs k v).length≤sizeLine:=by have:=gd kvs k v;omega
  refine wpAny_setItem_pairs (hsz:=hz) (jo ry) dd λh' dd' hs=>h _ ?_;have he:∃q,h'.get? a=some q:=let ⟨q,_,_,hq,_⟩:=dd';⟨q,hq⟩
  exact sg I (by rw[e];exact True.intro) hs he (Jk hl hd (rel.put k rv) dd')
 ·subst ey eH;cases (show u=Value.ref b from ry)
  obtain ⟨z,hd,xs,rel,dd⟩:=dt_of I.hok e;have hz:xs.length≤sizeLine:=by rw[←Paired.length rel];exact z
  have hl:(putK kvs k v).length≤sizeLine:=by have:=gd kvs k v;omega
  refine wpAny_setItem_heap (hsz:=hz) (tupleKind_room_in1 hu) (va I.hok eb) dd λh' dd' hs=>h _ ?_;obtain ⟨q,es,ep,hq,h2,h3,h4,_,h5⟩:=dd';refine sg I (by rw[e];exact True.intro) hs ⟨q,hq⟩ ⟨hl,hd,_,(rel.put k eb rv).keeps λc ys ec=>?_,q,es,ep,hq,h2,h3,h4,h5⟩;rw[ag (gx ec e (λz=>nomatch z))];exact ec
end
def NoSl (i:Expr):Prop:=∀ov iv,subscripted i false ov iv=operate [ov,iv] (getItem ov iv)
theorem G7 {prog:Program} {w:World} {A:Around} {E:Value→Shared→Prop} {s:Shared} {env:Env} {value slice:Expr} {pos:Pos} {T id:String} {Q:Value→Shared→Prop}
  (hl:typeLookup (.type T) "__getitem__"=pure (some (.builtin id))) (hs:NoSl slice)
  (h:wpAny (model prog w) A (eval value env) (λo s₁=>wpAny (model prog w) A (eval slice env) (λi s₂=>s₂.TypeIs o T∧wpAny (model prog w) A (getItem o i) Q E s₂) E s₁) E s):
  wpAny (model prog w) A (eval (.Subscript value slice pos) env) Q E s:=by
 refine Subscript_ (wpAny_mono h (λo s₁ h₁=>wpAny_mono h₁ (λi s₂ h₂=>?_) λ_ _ x=>x) λ_ _ x=>x);obtain ⟨hT,h₂⟩:=h₂;unfold subscriptTail;refine wpAny_bind ?_;rw[getitemInPython_of_ne hT.not_modules];refine wpAny_bind (wpAny_specialOf hT hl ?_);have fin:wpAny (model prog w) A (subscripted slice false o i) (λr s₃=>wpAny (model prog w) A (letTemporaryGo value o r >>=λ_=>pure r) Q E s₃) E s₂:=by
  rw[hs o i];exact wpAny_operating (wpAny_mono h₂ (λr s₃ h₃=>wpAny_bind (wpAny_letTemporaryGo (wpAny_pure h₃))) λ_ _ x=>x)
 first
  | exact wpAny_pure (wpAny_bind fin)
  | exact wpAny_bind (wpAny_pure (wpAny_bind fin))
  | exact wpAny_bind fin
theorem Cq {X:Cx} {pins:List (Addr×Obj)} {σ:St} {H:Hp} {s:Shared} {a:Addr} {y:V} {o:Option V} (I:Inv X pins σ H s) (g:jv H a y o):s.TypeIs (.ref a) "dict":=by
 rcases g with ⟨kvs,k,e,_,_⟩ | ⟨kvs,k,b,e,_,_,_⟩
 ·obtain ⟨_,_,vs,_,dd⟩:=Cu I.hok e;exact dd.typeIs
 ·obtain ⟨_,_,xs,_,dd⟩:=Be I.hok e;exact dd.typeIs
def tDGet (td ty:TE):TE:=λσ H Q=>td σ H λx H1=>ty σ H1 λy H2=>∃a v,x=.ref a∧jv H2 a y (some v)∧Q v H2
def tDIn (ty td:TE):TE:=λσ H Q=>ty σ H λy H1=>td σ H1 λx H2=>∃a o,x=.ref a∧jv H2 a y o∧Q (.bl o.isSome) H2
def G9 (ty td:TE):TE:=λσ H Q=>ty σ H λy H1=>td σ H1 λx H2=>∃a o,x=.ref a∧jv H2 a y o∧Q (.bl (!o.isSome)) H2
def sDPut (td ty tv:TE):TS:=λD σ H=>tv σ H λv H1=>td σ H1 λx H2=>ty σ H2 λy H3=>∃a H4,x=.ref a∧Aw H3 a y v H4∧D.nx σ H4
section
variable {X:Cx} {o i e value:Expr} {pos pos' tpos:Pos} {td ty tv:TE}
theorem Qd (hu:X.A.units+1 < cLine) (ho:PE X o td) (hi:PE X i ty) (hs:NoSl i):PE X (.Subscript o i pos) (tDGet td ty):=by
 intro pins s σ H Q I h;refine G7 PySem.F.slot_dict_getitem.lookup hs (thn (ho pins s σ H _ I h) λu s1 ⟨x,H1,I1,rx,q1⟩=>thn (hi pins s1 σ H1 _ I1 q1) λiv s2 ⟨y,H2,I2,ry,a,v,ex,g,q2⟩=>?_);subst ex;obtain rfl:u=Value.ref a:=rx;exact ⟨Cq I2 g,Hx hu I2 g ry λw' s3 I3 rw'=>⟨v,H2,I3,rw',q2⟩⟩
theorem pc_din (hu:X.A.units+1 < cLine) (hi:PE X i ty) (ho:PE X o td):PC X .In i o (tDIn ty td):=by
 intro pins s σ H Q I h;refine thn (hi pins s σ H _ I h) λiv s1 ⟨y,H1,I1,ry,q1⟩=>thn (ho pins s1 σ H1 _ I1 q1) λu s2 ⟨x,H2,I2,rx,a,ov,ex,g,q2⟩=>?_;subst ex;obtain rfl:u=Value.ref a:=rx;exact d_in hu I2 g ry λs3 I3=>⟨.bl ov.isSome,H2,I3,rfl,q2⟩
theorem ox (hu:X.A.units+1 < cLine) (hi:PE X i ty) (ho:PE X o td):PC X .NotIn i o (G9 ty td):=by
 intro pins s σ H Q I h;refine thn (hi pins s σ H _ I h) λiv s1 ⟨y,H1,I1,ry,q1⟩=>thn (ho pins s1 σ H1 _ I1 q1) λu s2 ⟨x,H2,I2,rx,a,ov,ex,g,q2⟩=>?_;subst ex;obtain rfl:u=Value.ref a:=rx;exact Ny hu I2 g ry λs3 I3=>⟨.bl (!ov.isSome),H2,I3,rfl,q2⟩
theorem Gr (hu:X.A.units+1 < cLine) (ho:PE X o td) (hi:PE X i ty) (hv:PE X value tv) (hs:swapsWith value (some (.Subscript o i pos')) pos.line X.env=pure false):
  PS X (.Assign [.Subscript o i pos'] value pos) (sDPut td ty tv):=by
 intro pins s σ H D I h;refine wpAny_Assign_Subscript (thn (hv pins s σ H _ I h) λr s1 ⟨v,H1,I1,rv,q1⟩=>thn (ho pins s1 σ H1 _ I1 q1) λu s2 ⟨x,H2,I2,rx,q2⟩=>thn (hi pins s2 σ H2 _ I2 q2) λiv s3 ⟨y,H3,I3,ry,a,H4,ex,g,q3⟩=>?_) hs;subst ex;obtain rfl:u=Value.ref a:=rx;exact Ie hu I3 g ry rv λs4 I4=>⟨σ,H4,I4,q3⟩
end
theorem J2 {P:Program} {w:World} {H:Hp} (h:Heap) (hb:sysModules < h.objs.size):b7 P w H (h.push { cls:=.type "dict",data:=.dict #[] }) h.objs.size (.dK []):=
 ⟨aa7 _,beq_eq_false_iff_ne.mpr (Ne.symm (aao hb)),[],.nil,Heap.DictOf.new h⟩
theorem Mz {P:Program} {w:World} {H:Hp} (h:Heap) (hb:sysModules < h.objs.size):b7 P w H (h.push { cls:=.type "dict",data:=.dict #[] }) h.objs.size (.dT []):=
 ⟨aa7 _,beq_eq_false_iff_ne.mpr (Ne.symm (aao hb)),[],.nil,_,#[],0,Heap.get?_push_size _ rfl,⟨rfl,rfl,rfl⟩,rfl,rfl,aca⟩
def tDNewK:TE:=λ_ H Q=>∀p,H p=none→Q (.ref p) (upd H p (.dK []))
def Di:TE:=λ_ H Q=>∀p,H p=none→Q (.ref p) (upd H p (.dT []))
section
variable {X:Cx} {pos:Pos}
theorem Bs:PE X (.Dict [] [] pos) Di:=λpins s σ H Q I h=>
 wpAny_Dict_empty ⟨.ref s.heap.objs.size,_,I.laid (a:=s.heap.objs.size) (o:=.dT []) (t':=s.toks) (λ_ _ q=>Heap.get?_push_of_some _ q) (aa4 _) (Mz s.heap I.big),rfl,h _ (I.hok.fresh (aa4 _))⟩
end
def Ai:List (TE×TE)→St→Hp→(List (V×V)→Hp→Prop)→Prop
 | [],_,H,Q=>Q [] H
 | (tk,tv)::r,σ,H,Q=>tk σ H λx H1=>tv σ H1 λy H2=>Ai r σ H2 λps H3=>Q ((x,y)::ps) H3
abbrev VV:List (V×V)→List (Value×Value)→Prop:=Paired λp q=>RelV p.1 q.1∧RelV p.2 q.2
def PPs (X:Cx) (pos:Pos) (keys:List (Option Expr)) (values:List Expr) (trs:List (TE×TE)):Prop:=
 ∀(pins:List (Addr×Obj)) (s:Shared) (σ:St) (H:Hp) (Q:List (V×V)→Hp→Prop),Inv X pins σ H s→Ai trs σ H Q→
  wpAny (model X.prog X.w) X.A (evalPairs (pairTrees keys values X.env pos)) (λvs s'=>∃ps H',Inv X pins σ H' s'∧VV ps vs∧Q ps H') X.xe s
theorem O0 {X:Cx} {pos:Pos}:PPs X pos [] [] []:=λpins s σ H Q I h=>pairTrees_nil_walk ⟨[],H,I,.nil,h⟩
theorem Ni {X:Cx} {pos:Pos} {k v:Expr} {ks:List (Option Expr)} {vs:List Expr} {tk tv:TE} {trs:List (TE×TE)} (hk:PE X k tk) (hv:PE X v tv) (hr:PPs X pos ks vs trs):
  PPs X pos (some k::ks) (v::vs) ((tk,tv)::trs):=λpins s σ H Q I h=>
 pairTrees_cons_walk (thn (hk pins s σ H _ I h) λu s1 ⟨x,H1,I1,rx,q1⟩=>thn (hv pins s1 σ H1 _ I1 q1) λw2 s2 ⟨y,H2,I2,ry,q2⟩=>
  thn (hr pins s2 σ H2 _ I2 q2) λws s3 ⟨ps,H3,I3,rel,q3⟩=>⟨(x,y)::ps,H3,I3,.cons ⟨rx,ry⟩ rel,q3⟩)
noncomputable def qe (kvs more:List (Key×V)):List (Key×V):=more.foldl (λacc kv=>putK acc kv.1 kv.2) kvs
theorem KV.merge:∀{more:List (Key×V)} {rs:List (Key×Value)} {kvs:List (Key×V)} {vs:List (Key×Value)},KV more rs→KV kvs vs→KV (qe kvs more) (merged vs rs):=by
 intro more rs kvs vs r;unfold KV at r;induction r generalizing kvs vs with
 | nil=>intro q;exact q
 | @cons p q ps qs h t ih=>
  intro r0;have e:KV (putK kvs p.1 p.2) (stored vs q.1 q.2):=by
   have:=r0.put p.1 h.2;rw[←h.1];exact this
  exact ih e
theorem lh:∀(more kvs:List (Key×V)),(qe kvs more).length≤kvs.length+more.length
 | [],kvs=>by show kvs.length≤kvs.length+0;omega
 | p::r,kvs=>by
  have h1:=lh r (putK kvs p.1 p.2);have h2:=gd kvs p.1 p.2;show (qe (putK kvs p.1 p.2) r).length≤_
  rw[aai];omega
theorem uw {P:Program} {w:World}:∀{kvs:List (Key×V)} {ws:List (Value×Value)},VV (kvs.map λkv=>(kV kv.1,kv.2)) ws→∃rs,Carries (ay P w) ws rs∧KV kvs rs
 | [],_,r=>by rw[adf] at r;cases r;exact ⟨[],True.intro,.nil⟩
 | p::kvs,_,r=>by
  rw[aaw] at r;cases r with
  | @cons a b as bs h t=>
   obtain ⟨rs,c,q⟩:=uw (P:=P) (w:=w) t;obtain ⟨b1,b2⟩:=b;exact ⟨(p.1,b2)::rs,⟨jo h.1,rfl,c⟩,.cons ⟨rfl,h.2⟩ q⟩
def tDisp (trs:List (TE×TE)):TE:=λσ H Q=>∀p,H p=none→Ai trs σ (upd H p (.dK [])) λps H2=>H2 p=some (.dK [])∧∃kvs:List (Key×V),ps=kvs.map (λkv=>(kV kv.1,kv.2))∧kvs.length≤15∧Q (.ref p) (upd H2 p (.dK (qe [] kvs)))
theorem O4 {X:Cx} {pos:Pos} {keys:List (Option Expr)} {values:List Expr} {trs:List (TE×TE)} (h:PPs X pos keys values trs) (hall:keys.all (·.isSome)=true) (hl:keys.length=values.length) (h0:keys≠[])
  (h15:keys.length≤15):PE X (.Dict keys values pos) (tDisp trs):=by
 intro pins s σ H Q I q;have hn:=I.hok.fresh (aa4 s.heap.objs.size);have I1:=I.laid (a:=s.heap.objs.size) (o:=.dK []) (h':=s.heap.push { cls:=.type "dict",data:=.dict #[] }) (t':=s.toks) (λ_ _ q=>Heap.get?_push_of_some _ q) (aa4 _) (J2 s.heap I.big);refine wpAny_Dict_walk (knd:=ay X.prog X.w) hall hl h0 h15 (thn (h pins _ σ _ _ I1 (q _ hn)) λws s2 ⟨ps,H2,I2,rel,e,kvs,ep,lk,q2⟩=>?_);subst ep;obtain ⟨rs,c,rk⟩:=uw (P:=X.prog) (w:=X.w) rel;obtain ⟨z,hd,vs0,r0,dd⟩:=dk_of I2.hok e;cases r0
 refine ⟨rs,c,dd,λh' dd' hs=>⟨.ref s.heap.objs.size,_,?_,rfl,q2⟩⟩;have hz:(qe [] kvs).length≤sizeLine:=by
  have h1:=lh kvs [];rw[acf] at h1;rw[sizeLine_eq];omega
 have he:∃q,h'.get? s.heap.objs.size=some q:=let ⟨q,_,_,hq,_⟩:=dd';⟨q,hq⟩
 exact sg I2 (by rw[e];exact True.intro) hs he (Jk hz hd (rk.merge .nil) dd')
structure M2 (X:Cx) (o:Expr) (m:Str) (apos:Pos) (e f:Expr) (cpos:Pos):Prop where
 base:attributeBase o m X.env (eval o X.env)=eval o X.env
 few:((backTo cpos (starEach [e,f] X.env)).all (λx=>!x.1)&&(backToKw cpos (keywordEach [] X.env)).all (λx=>x.1.isSome)
  &&decide (([e,f]:List Expr).length+([]:List Keyword).length+(if ([]:List Keyword).isEmpty then 0 else 1) < 30))=true
 line:(apos.endLine==cpos.line)=true
 trees:backTo cpos (starEach [e,f] X.env)=[(false,eval e X.env),(false,eval f X.env)]
section
variable {κ:Type} [DecidableEq κ]
theorem Lj {kvs:List (κ×V)} {k:κ} (h:cu kvs k=none):¬k∈kvs.map (·.1):=by
 intro m;obtain ⟨p,hp,e⟩:=List.mem_map.mp m;have q:(kvs.any λkv=>decide (kv.1=k))=true:=List.any_eq_true.mpr ⟨p,hp,decide_eq_true e⟩;rw[eh,h] at q;exact absurd q (by simp)
theorem Fh {kvs:List (κ×V)} {k:κ} {v:V} (h:cu kvs k=some v):k∈kvs.map (·.1):=by
 have q:(kvs.any λkv=>decide (kv.1=k))=true:=by
  rw[eh,h];all_goals rfl
 obtain ⟨p,hp,e⟩:=List.any_eq_true.mp q;exact List.mem_map.mpr ⟨p,hp,of_decide_eq_true e⟩
theorem F8:∀{l:List κ} {k:κ},l.Nodup→¬k∈l→(l++[k]).Nodup
 | [],k,_,_=>by simp
 | a::r,k,h,hk=>by
  obtain ⟨h1,h2⟩:=List.nodup_cons.mp h;show (a::(r++[k])).Nodup
  refine List.nodup_cons.mpr ⟨λm=>?_,F8 h2 λm=>hk (List.mem_cons.mpr (ab2 m))⟩;rcases List.mem_append.mp m with q | q
  ·exact h1 q
  ·exact hk (List.mem_cons.mpr (ab1 (List.mem_singleton.mp q).symm))
theorem Oy {kvs:List (κ×V)} {k:κ} (v:V) (hn:(kvs.map (·.1)).Nodup) (h:cu kvs k=none):((putK kvs k v).map (·.1)).Nodup:=by
 rw[Bm v h,aa6];exact F8 hn (Lj h)
end
def m6 (i:Nat):TE:=λσ H Q=>match σ[i]? with | some (some v)=>Q v H | _=>False
theorem pvD {X:Cx} (i:Nat) {x:Str} {pos:Pos} (hN:X.N[i]?=some x) (hv:Vis X.env.scope x) (hd:(x==("__debug__":Str))=false) (hcd:(x==("__classdict__":Str))=false):PE X (.Name x pos) (m6 i):=λpins s σ H Q I h=>pv i hN hv hd hcd pins s σ H Q I (by
 unfold m6 at h;split at h
 ·exact ⟨_,‹_›,h⟩
 ·exact h.elim)
theorem pl {X:Cx} (i:Nat) {x:Str} {pos:Pos} (hN:X.N[i]?=some x) (hv:X.env.scope.names.lookup x=some .local) (hd:(x==("__debug__":Str)||x==("__classdict__":Str))=false):PE X (.Name x pos) (m6 i):=pvD i hN (.inl hv) (Bool.or_eq_false_iff.mp hd).1 (Bool.or_eq_false_iff.mp hd).2
theorem pk {X:Cx} (i:Nat) {x:Str} {pos:Pos} (hN:X.N[i]?=some x) (hv:X.env.scope.names.lookup x=some .cell) (hd:(x==("__debug__":Str)||x==("__classdict__":Str))=false):PE X (.Name x pos) (m6 i):=pvD i hN (.inr (.inl hv)) (Bool.or_eq_false_iff.mp hd).1 (Bool.or_eq_false_iff.mp hd).2
theorem i8 {i:Nat} {σ:L2.St} {H:Hp} {Q:VK}:m6 i σ H Q=∃v,σ[i]?=some (some v)∧Q v H:=by
 unfold m6;refine propext ⟨λh=>?_,λ⟨v,e,h⟩=>?_⟩
 ·split at h
  ·exact ⟨_,‹_›,h⟩
  ·exact h.elim
 ·rw[e];exact h
theorem Jc {α:Type} {a:α} {x y:List α}:(a::x=a::y)=(x=y):=propext ⟨λh=>(abh h).2,λh=>by rw[h]⟩
theorem Pq {α:Type} {a b:α}:([a]=[b])=(a=b):=propext ⟨λh=>(abh h).1,λh=>by rw[h]⟩
theorem O7 {α:Type} {a b c d:α}:([a,c]=[b,d])=(a=b∧c=d):=propext ⟨λh=>⟨(abh h).1,(abh (abh h).2).1⟩,λ⟨h,k⟩=>by rw[h,k]⟩
theorem Nz {α:Type} {a b c d e f:α}:([a,c,e]=[b,d,f])=(a=b∧c=d∧e=f):=propext ⟨λh=>⟨(abh h).1,(abh (abh h).2).1,(abh (abh (abh h).2).2).1⟩,λ⟨h,k,l⟩=>by rw[h,k,l]⟩
theorem int_ex {a:Int} {p:Int→Prop}:(∃x,V.int a=V.int x∧p x)=p a:=propext ⟨λ⟨x,e,h⟩=>by cases e;exact h,λh=>⟨a,rfl,h⟩⟩
theorem ref_ex {a:Addr} {p:Addr→Prop}:(∃x,V.ref a=V.ref x∧p x)=p a:=propext ⟨λ⟨x,e,h⟩=>by cases e;exact h,λh=>⟨a,rfl,h⟩⟩
theorem bl_ex {a:Bool} {p:Bool→Prop}:(∃x,V.bl a=V.bl x∧p x)=p a:=propext ⟨λ⟨x,e,h⟩=>by cases e;exact h,λh=>⟨a,rfl,h⟩⟩
theorem Rf {a b:Int} {p:Int→Int→Prop}:(∃x y,V.int a=V.int x∧V.int b=V.int y∧p x y)=p a b:=propext ⟨λ⟨x,y,e,e2,h⟩=>by cases e;cases e2;exact h,λh=>⟨a,b,rfl,rfl,h⟩⟩
theorem ifY {c:Prop} [Decidable c] {A B:Prop} (hc:c) (h:A):if c then A else B:=by rw[if_pos hc];exact h
theorem ifN {c:Prop} [Decidable c] {A B:Prop} (hc:¬c) (h:B):if c then A else B:=by rw[if_neg hc];exact h
theorem us0 {α:Type} {P:List α→Prop} {us:List α} (hl:us.length=0) (h:P []):P us:=by
 rw[List.length_eq_zero_iff.mp hl];exact h
theorem usS {α:Type} {P:List α→Prop} {us:List α} {n:Nat} (hl:us.length=n+1) (h:∀a us,us.length=n→P (a::us)):P us:=by
 cases us with
 | nil=>exact absurd hl.symm (Nat.succ_ne_zero n)
 | cons a l=>exact h a l (Nat.succ.inj hl)
theorem us1 {α:Type} {P:List α→Prop} {us:List α} (hl:us.length=1) (h:∀a,P [a]):P us:=usS hl λa us hl=>us0 (P:=λus=>P (a::us)) hl (h a)
theorem us2 {α:Type} {P:List α→Prop} {us:List α} (hl:us.length=2) (h:∀a b,P [a,b]):P us:=usS hl λa us hl=>us1 (P:=λus=>P (a::us)) hl (h a)
theorem us3 {α:Type} {P:List α→Prop} {us:List α} (hl:us.length=3) (h:∀a b c,P [a,b,c]):P us:=usS hl λa us hl=>us2 (P:=λus=>P (a::us)) hl (h a)
theorem us4 {α:Type} {P:List α→Prop} {us:List α} (hl:us.length=4) (h:∀a b c d,P [a,b,c,d]):P us:=usS hl λa us hl=>us3 (P:=λus=>P (a::us)) hl (h a)
theorem us5 {α:Type} {P:List α→Prop} {us:List α} (hl:us.length=5) (h:∀a b c d e,P [a,b,c,d,e]):P us:=usS hl λa us hl=>us4 (P:=λus=>P (a::us)) hl (h a)
def Aq (g:Int→Int→V):R2:=λx y H Q=>match x,y with | .int i,.int j=>Q (g i j) H | _,_=>False
def rID (C:Int→Int→Prop) (g:Int→Int→V):R2:=λx y H Q=>match x,y with | .int i,.int j=>C i j∧Q (g i j) H | _,_=>False
def rUD (g:Int→V):V→Hp→VK→Prop:=λx H Q=>match x with | .int i=>Q (g i) H | _=>False
def tBD (t:TE):TT:=λσ H Q=>t σ H λx H1=>match x with | .bl c=>Q c H1 | _=>False
def Ez (t:TE):TO:=λσ H Q=>t σ H λx H1=>match x with | .int i=>Q (some i) H1 | _=>False
theorem ij:@Aq=@rI0:=by
 funext g x y H Q
 refine propext ⟨λh=>?_,λ⟨i,j,e,f,h⟩=>by subst e;subst f;exact h⟩;unfold Aq at h;split at h
 ·exact ⟨_,_,rfl,rfl,h⟩
 ·exact h.elim
theorem zf:@rID=@rI:=by
 funext C g x y H Q
 refine propext ⟨λh=>?_,λ⟨i,j,e,f,h⟩=>by subst e;subst f;exact h⟩;unfold rID at h;split at h
 ·exact ⟨_,_,rfl,rfl,h⟩
 ·exact h.elim
theorem rUD_eq:@rUD=@rU:=by
 funext g x H Q
 refine propext ⟨λh=>?_,λ⟨i,e,h⟩=>by subst e;exact h⟩;unfold rUD at h;split at h
 ·exact ⟨_,rfl,h⟩
 ·exact h.elim
theorem blD {x:V} {Q:Bool→Prop}:(match x with | .bl c=>Q c | _=>False)=∃c,x=.bl c∧Q c:=by
 refine propext ⟨λh=>?_,λ⟨i,e,h⟩=>by subst e;exact h⟩;split at h
 ·exact ⟨_,rfl,h⟩
 ·exact h.elim
theorem jx:@tBD=@tB:=by
 funext t σ H Q
 exact congrArg (t σ H) (funext λx=>funext λH1=>blD)
theorem Hn:@Ez=@M4:=by
 funext t σ H Q
 refine congrArg (t σ H) (funext λx=>funext λH1=>propext ⟨λh=>?_,λ⟨i,e,h⟩=>by subst e;exact h⟩);split at h
 ·exact ⟨_,rfl,h⟩
 ·exact h.elim
variable {X:Cx}
theorem Q9:OpR X (binaryOp .Add) (Aq λi j=>.int (i+j)):=ij ▸ op_add
theorem O8:OpR X (binaryOp .Sub) (Aq λi j=>.int (i - j)):=ij ▸ op_sub
theorem pf:OpR X (compareOp .Lt) (Aq λi j=>.bl (decide (i < j))):=ij ▸ op_lt
theorem op_gtD:OpR X (compareOp .Gt) (Aq λi j=>.bl (decide (j < i))):=ij ▸ op_gt
theorem yz:OpR X (binaryOp .Mult) (rID CMul λi j=>.int (i*j)):=zf ▸ op_mul
theorem Km:OpR X (binaryOp .FloorDiv) (rID om λi j=>.int (i / j)):=zf ▸ Qc
theorem Q3:OpR X (binaryOp .Mod) (rID (λ_ j=>0 < j) λi j=>.int (i % j)):=zf ▸ op_mod
theorem jh:OpR X (binaryOp .Pow) (rID CPow λi j=>.int (i ^ j.toNat)):=zf ▸ op_pow
theorem sq:UnR X (unaryOp .USub) (rUD λi=>.int (-i)):=rUD_eq ▸ un_neg
theorem Ol {e:Expr} {t:TE} (h:PE X e t) (he:∀whole,isTrue e X.env whole=(do let v ←whole;standAt e.pos;holding [v] (truthy v))):PT X e (tBD t):=jx ▸ pt_val h he
theorem Pj {a b:Expr} {pos:Pos} {op:CmpOp} {t:TE} (h:PC X op a b t) (h1:behindInMarks op b=false):PT X (.Compare a [op] [b] pos) (tBD t):=jx ▸ pt_cmp h h1
theorem Cj {a b:Expr} {ta tb:TE} {pos:Pos} {op:CmpOp} {r:R2} (ho:OpR X (compareOp op) r) (ha:PE X a ta) (hb:PE X b tb) (hm:behindInMarks op b=false):PT X (.Compare a [op] [b] pos) (tBD (tOp r ta tb)):=jx ▸ Oi ho ha hb hm
theorem L9 {e:Expr} {te:TE} (h:PE X e te):PO X (some e) (Ez te):=Hn ▸ Of h
def yf (K:PySem.W.Frag):List V→Hp→VK→Prop:=λxs H Q=>match xs with | [.ref p]=>∃ys,(SqL K H p ys∨SqT K H p ys)∧Q (.int ys.length) H | _=>False
def M1 (K:PySem.W.Frag):List V→Hp→VK→Prop:=λxs H Q=>match xs with | [.ref p]=>∃ys,(SqL K H p ys∧∀l,H l=none→Q (.ref l) (upd H l (.tup ys)))∨(SqT K H p ys∧Q (.ref p) H) | _=>False
def Lv:List V→Hp→VK→Prop:=λxs H Q=>match xs with | [.int i]=>Q (.int i) H | [.bl k]=>Q (.int (if k then 1 else 0)) H | _=>False
theorem wd:jn X (.builtin "len") (yf X.K):=by
 refine Eq.mp (congrArg _ ?_) yj;funext xs H Q
 refine propext ⟨λ⟨p,ys,e,h⟩=>by subst e;exact ⟨ys,h⟩,λh=>?_⟩;unfold yf at h;split at h
 ·exact h.elim λys h=>⟨_,ys,rfl,h⟩
 ·exact h.elim
theorem uz:jn X (.type "tuple") (M1 X.K):=by
 refine Eq.mp (congrArg _ ?_) wa;funext xs H Q
 refine propext ⟨λ⟨p,ys,e,h⟩=>by subst e;exact ⟨ys,h⟩,λh=>?_⟩;unfold M1 at h;split at h
 ·exact h.elim λys h=>⟨_,ys,rfl,h⟩
 ·exact h.elim
theorem g8:jn X (.type "int") Lv:=by
 refine Eq.mp (congrArg _ ?_) Iu;funext xs H Q
 refine propext ⟨λh=>?_,λh=>?_⟩
 ·rcases h with ⟨i,e,h⟩ | ⟨k,e,h⟩ <;> subst e <;> exact h
 unfold Lv at h;split at h
 ·exact .inl ⟨_,rfl,h⟩
 ·exact .inr ⟨_,rfl,h⟩
 ·exact h.elim
end L2
namespace Pc
section
variable {κ:Type} [DecidableEq κ]
noncomputable def cost (g:κ→Option Int):Int→List κ→Option Int
 | c,[]=>some c
 | c,k::r=>match g k with
  | none=>none
  | some v=>cost g (c+v) r
structure Ft (κ:Type) where
 key:κ
 own:Int
 hs:List κ
theorem dz {g:κ→Option Int} {c:Int} {k:κ} {r:List κ} {v:Int} (h:g k=some v):cost g c (k::r)=cost g (c+v) r:=by
 show (match g k with | none=>none | some v=>cost g (c+v) r)=_
 rw[h]
theorem iz {g:κ→Option Int} {c:Int} {k:κ} {r:List κ} (h:g k=none):cost g c (k::r)=none:=by
 show (match g k with | none=>none | some v=>cost g (c+v) r)=_
 rw[h]
theorem i6 {g:κ→Option Int} {c x:Int} {k:κ} {r:List κ} (h:cost g c (k::r)=some x):∃v,g k=some v∧cost g (c+v) r=some x:=by
 cases e:g k with
 | none=>rw[iz e] at h;cases h
 | some v=>rw[dz e] at h;exact ⟨v,rfl,h⟩
theorem mr {g g':κ→Option Int}:∀{hs:List κ} {c c' x:Int},(∀k∈hs,∀v,g k=some v→∃v',g' k=some v'∧v'≤v)→c'≤c→cost g c hs=some x→∃x',cost g' c' hs=some x'∧x'≤x
 | [],c,c',x,_,hc,h=>⟨c',rfl,by cases h;exact hc⟩
 | k::r,c,c',x,hk,hc,h=>by
  obtain ⟨v,hv,h⟩:=i6 h;obtain ⟨v',hv',le⟩:=hk k aa9 v hv;obtain ⟨x',hx',le'⟩:=mr (c':=c'+v') (λk' m=>hk k' (aab _ m)) (by omega) h;exact ⟨x',by rw[dz hv'];exact hx',le'⟩
theorem uk {g g':κ→Option Int}:∀{hs:List κ} {c:Int},(∀k∈hs,g k=g' k)→cost g c hs=cost g' c hs
 | [],c,_=>rfl
 | k::r,c,h=>by
  have e:=h k aa9;cases q:g k with
  | none=>rw[iz q,iz (e ▸ q)]
  | some v=>rw[dz q,dz (e ▸ q)];exact uk λk' m=>h k' (aab _ m)
theorem zr {g:κ→Option Int} (pos:∀k v,g k=some v→1≤v):∀{hs:List κ} {c x:Int},cost g c hs=some x→c≤x
 | [],c,x,h=>by cases h;exact abr _
 | k::r,c,x,h=>by
  obtain ⟨v,hv,h⟩:=i6 h;have:=zr pos h;have:=pos k v hv;omega
theorem yk {g:κ→Option Int} (pos:∀k v,g k=some v→1≤v):∀{hs:List κ} {c x:Int},1≤c→cost g c hs=some x→∀k∈hs,∃v,g k=some v∧v < x
 | [],c,x,_,_,k,hk=>nomatch hk
 | k::r,c,x,hc,h,k',hk=>by
  obtain ⟨v,hv,h2⟩:=i6 h;have p:=pos k v hv;have p2:=zr pos h2;rcases List.mem_cons.mp hk with e | hk
  ·exact ⟨v,by rw[e];exact hv,by omega⟩
  ·exact yk pos (by omega) h2 k' hk
theorem ud {g:κ→Option Int} {M:Int} (h0:0≤M) (hM:∀k v,g k=some v→v≤M):∀{hs:List κ} {c x:Int},cost g c hs=some x→x≤c+hs.length*M
 | [],c,x,h=>by cases h;simp
 | k::r,c,x,h=>by
  obtain ⟨v,hv,h⟩:=i6 h;have:=ud h0 hM h;have:=hM k v hv;rw[aai,Int.natCast_add,Int.add_mul];omega
def kb (F:List (Ft κ)) (g:κ→Option Int):Prop:=∀f∈F,∀c,cost g f.own f.hs=some c→∃v,g f.key=some v∧v≤c
def Due (F:List (Ft κ)) (g:κ→Option Int):Prop:=∀k v,g k=some v→∃f∈F,f.key=k∧∃c,cost g f.own f.hs=some c∧c≤v
structure Tbl (F:List (Ft κ)) (g:κ→Option Int):Prop where
 st:kb F g
 du:Due F g
 pos:∀k v,g k=some v→1≤v
theorem Tbl.exact {F:List (Ft κ)} {g:κ→Option Int} (h:Tbl F g) {k:κ} {v:Int} (hv:g k=some v):∃f∈F,f.key=k∧cost g f.own f.hs=some v:=by
 obtain ⟨f,hf,rfl,c,hc,le⟩:=h.du k v hv;obtain ⟨v',hv',le'⟩:=h.st f hf c hc;obtain rfl:v=v':=aa3 (hv.symm.trans hv');exact ⟨f,hf,rfl,by rw[hc];congr 1;omega⟩
theorem Tbl.le {F:List (Ft κ)} {g g':κ→Option Int} (h:Tbl F g) (h':Tbl F g') (own:∀f∈F,1≤f.own):∀(n:Nat) (k:κ) (v:Int),v.toNat≤n→g k=some v→∃v',g' k=some v'∧v'≤v
 | 0,k,v,hn,hv=>by
  have:=h.pos k v hv;omega
 | n+1,k,v,hn,hv=>by
  obtain ⟨f,hf,rfl,hc⟩:=h.exact hv;have lt:=yk h.pos (own f hf) hc;have p:=h.pos _ v hv;obtain ⟨x',hx',le⟩:=mr (g':=g') (c':=f.own) (λk hk w hw=>by
   obtain ⟨w',hw',l⟩:=lt k hk;obtain rfl:w=w':=aa3 (hw.symm.trans hw');exact Tbl.le h h' own n k w (by omega) hw) (abr _) hc
  obtain ⟨v',hv',le'⟩:=h'.st f hf x' hx';exact ⟨v',hv',by omega⟩
theorem Tbl.eq {F:List (Ft κ)} {g g':κ→Option Int} (h:Tbl F g) (h':Tbl F g') (own:∀f∈F,1≤f.own):g=g':=by
 funext k
 cases e:g k with
 | some v=>
  obtain ⟨v',hv',le⟩:=Tbl.le h h' own _ k v (aa4 _) e;obtain ⟨v2,hv2,le2⟩:=Tbl.le h' h own _ k v' (aa4 _) hv';obtain rfl:v=v2:=aa3 (e.symm.trans hv2);rw[hv'];congr 1
  omega
 | none=>
  cases e':g' k with
  | none=>rfl
  | some v=>
   obtain ⟨v',hv',_⟩:=Tbl.le h' h own _ k v (aa4 _) e';rw[e] at hv';cases hv'
noncomputable def ia (g:κ→Option Int) (k:κ) (v:Int):κ→Option Int:=λx=>if x=k then some v else g x
theorem cy {g:κ→Option Int} {k:κ} {v:Int}:ia g k v k=some v:=if_pos rfl
theorem fb {g:κ→Option Int} {k x:κ} {v:Int} (h:x≠k):ia g k v x=g x:=if_neg h
def Imp (g:κ→Option Int) (k:κ) (c:Int):Prop:=g k=none∨∃v,g k=some v∧c < v
theorem Imp.le {g:κ→Option Int} {k:κ} {c:Int} (h:Imp g k c) {x:κ} {v:Int} (hv:g x=some v):∃v',ia g k c x=some v'∧v'≤v:=by
 by_cases e:x=k
 ·subst e;refine ⟨c,cy,?_⟩;rcases h with h | ⟨w,h,l⟩
  ·rw[h] at hv;cases hv
  ·rw[h] at hv;cases hv;omega
 ·exact ⟨v,by rw[fb e];exact hv,abr _⟩
theorem Pt {F:List (Ft κ)} {g:κ→Option Int} {f:Ft κ} {c:Int} (D:Due F g) (hf:f∈F) (hc:cost g f.own f.hs=some c) (im:Imp g f.key c):Due F (ia g f.key c):=λk v hv=>by
 have up:∀{f':Ft κ} {c':Int},cost g f'.own f'.hs=some c'→∃x,cost (ia g f.key c) f'.own f'.hs=some x∧x≤c':=λh=>mr (λk _ v hv=>im.le hv) (abr _) h;by_cases e:k=f.key
 ·subst e;rw[cy] at hv;cases hv
  obtain ⟨x,hx,le⟩:=up hc;exact ⟨f,hf,rfl,x,hx,le⟩
 ·rw[fb e] at hv;obtain ⟨f',hf',e',c',hc',le⟩:=D k v hv;obtain ⟨x,hx,le'⟩:=up hc';exact ⟨f',hf',e',x,hx,by omega⟩
noncomputable def cnt (F:List (Ft κ)) (g:κ→Option Int):Nat:=(F.filter λf=>(g f.key).isSome).length
theorem Kn (F:List (Ft κ)) (g:κ→Option Int):cnt F g≤F.length:=ab8 _ _
theorem mw {g g':κ→Option Int}:∀(F:List (Ft κ)),(∀f∈F,(g f.key).isSome→(g' f.key).isSome)→cnt F g≤cnt F g'
 | [],_=>aa4 _
 | f::F,h=>by
  have ih:=mw F λf' m=>h f' (aab _ m);have h0:=h f aa9;unfold cnt at ih ⊢;rw[aap,aap];cases e:(g f.key).isSome with
  | false=>
   rw[if_neg (by simp)];split
   ·rw[aai];omega
   ·exact ih
  | true=>
   rw[h0 e];simp only[if_true,aai];omega
theorem zi {g:κ→Option Int} {k:κ} {c:Int} (hn:g k=none):∀(F:List (Ft κ)),(∃f∈F,f.key=k)→cnt F g+1≤cnt F (ia g k c)
 | [],h=>by obtain ⟨f,hf,_⟩:=h;cases hf
 | f::F,h=>by
  have mono:=mw (g:=g) (g':=ia g k c) F λf' _ e=>by
   by_cases q:f'.key=k
   ·rw[q,cy];rfl
   ·rw[fb q];exact e
  unfold cnt at mono ⊢;rw[aap,aap];by_cases q:f.key=k
  ·rw[q,hn,cy];simp only[ado,acv,if_true,ab6,if_false,aai];omega
  ·rw[fb q];have ih:=zi (c:=c) hn F (by
    obtain ⟨f',hf',e⟩:=h;rcases List.mem_cons.mp hf' with rfl | hf'
    ·exact absurd e q
    ·exact ⟨f',hf',e⟩)
   unfold cnt at ih;cases (g f.key).isSome with
   | true=>simp only[if_true,aai];omega
   | false=>simp only[ab6,if_false];omega
noncomputable def top (D P h:Nat):Nat→Nat
 | 0=>D
 | c+1=>top D P h c+P+h*top D P h c
theorem j0 (D P h:Nat):∀{a b:Nat},a≤b→top D P h a≤top D P h b:=λ{a b} hab=>by
 induction hab with
 | refl=>exact aa4 _
 | @step m _ ih=>
  have:top D P h m≤top D P h (m+1):=by
   show _≤top D P h m+P+h*top D P h m
   rw[adt];exact aay _ _
  exact aar ih this
theorem nr {α:Type} (f:α→Nat):∀l:List α,∃B,∀x∈l,f x≤B
 | []=>⟨0,λ_ h=>nomatch h⟩
 | a::l=>by
  obtain ⟨B,h⟩:=nr f l;refine ⟨f a+B,λx hx=>?_⟩;rcases List.mem_cons.mp hx with rfl | hx
  ·exact aay _ _
  ·exact aar (h x hx) (Nat.le_add_left _ _)
noncomputable def room (B:Nat) (F:List (Ft κ)) (g:κ→Option Int):Nat:=(F.map λf=>match g f.key with | some v=>v.toNat | none=>B+1).sum
theorem Cz {B:Nat} {g:κ→Option Int} {k:κ} {c:Int} (im:Imp g k c) (h0:0≤c) (hB:c.toNat≤B):∀(F:List (Ft κ)),room B F (ia g k c)≤room B F g∧((∃f∈F,f.key=k)→room B F (ia g k c) < room B F g)
 | []=>⟨aa4 _,λh=>by obtain ⟨f,hf,_⟩:=h;cases hf⟩
 | f::F=>by
  obtain ⟨i1,i2⟩:=Cz (B:=B) im h0 hB F;unfold room at i1 i2 ⊢;rw[aaw,aaw,aco,aco];by_cases q:f.key=k
  ·rw[q,cy];rcases im with e | ⟨v,e,l⟩
   ·rw[e];show c.toNat+_≤B+1+_∧(_→c.toNat+_ < B+1+_)
    exact ⟨by omega,λ_=>by omega⟩
   ·rw[e];show c.toNat+_≤v.toNat+_∧(_→c.toNat+_ < v.toNat+_)
    exact ⟨by omega,λ_=>by omega⟩
  ·rw[fb q];refine ⟨by omega,λh=>?_⟩;have:=i2 (by
    obtain ⟨f',hf',e⟩:=h;rcases List.mem_cons.mp hf' with rfl | hf'
    ·exact absurd e q
    ·exact ⟨f',hf',e⟩)
   omega
theorem ends {F:List (Ft κ)} {g0:κ→Option Int} (pos0:∀k v,g0 k=some v→1≤v) (own:∀f∈F,1≤f.own) (hB:∃D:Nat,∀k v,g0 k=some v→v≤(D:Int)):
  ∃(μ:(κ→Option Int)→Nat) (Ok:(κ→Option Int)→Prop),Ok g0∧(∀g,Ok g→∀k v,g k=some v→1≤v)∧∀g f c,Ok g→f∈F→cost g f.own f.hs=some c→Imp g f.key c→Ok (ia g f.key c)∧μ (ia g f.key c) < μ g:=by
 obtain ⟨D,hD⟩:=hB;obtain ⟨P,hP⟩:=nr (λf:Ft κ=>f.own.toNat) F;obtain ⟨h,hh⟩:=nr (λf:Ft κ=>f.hs.length) F;refine ⟨room (top D P h F.length) F,λg=>(∀k v,g k=some v→1≤v∧v≤(top D P h (cnt F g):Int)),λk v hv=>⟨pos0 k v hv,?_⟩,λg ok k v hv=>(ok k v hv).1,λg f c ok hf hc im=>?_⟩
 ·have a1:=hD k v hv;have a2:=j0 D P h (aa7 (cnt F g0));have a3:top D P h 0=D:=rfl;omega
 ·have pos:∀k v,g k=some v→1≤v:=λk v hv=>(ok k v hv).1;have c1:=zr pos hc;have o1:=own f hf;have hmono:cnt F g≤cnt F (ia g f.key c):=mw F λf' _ e=>by
   by_cases q:f'.key=f.key
   ·rw[q,cy];rfl
   ·rw[fb q];exact e
  have hcb:c≤(top D P h (cnt F (ia g f.key c)):Int):=by
   rcases im with e | ⟨v,e,l⟩
   ·have a1:=ud (M:=(top D P h (cnt F g):Int)) (by omega) (λk v hv=>(ok k v hv).2) hc;have a2:f.own.toNat≤P:=hP f hf;have a3:f.hs.length≤h:=hh f hf;have a4:=zi (c:=c) e F ⟨f,hf,rfl⟩;have a5:=j0 D P h a4;have a6:top D P h (cnt F g+1)=top D P h (cnt F g)+P+h*top D P h (cnt F g):=rfl;have a7:f.hs.length*top D P h (cnt F g)≤h*top D P h (cnt F g):=aeh _ a3;have a8:((f.hs.length*top D P h (cnt F g):Nat):Int)=(f.hs.length:Int)*(top D P h (cnt F g):Int):=by rw[Int.natCast_mul]
    omega
   ·have:=(ok _ v e).2;have a5:=j0 D P h hmono;omega
  have tB:=j0 D P h (Kn F (ia g f.key c));refine ⟨λk v hv=>?_,(Cz im (by omega) (by omega) F).2 ⟨f,hf,rfl⟩⟩;by_cases q:k=f.key
  ·subst q;rw[cy] at hv;cases hv
   exact ⟨by omega,hcb⟩
  ·rw[fb q] at hv;obtain ⟨b1,b2⟩:=ok k v hv;have a5:=j0 D P h hmono;exact ⟨b1,by omega⟩
end
end Pc
namespace L2
open PySem PySem.Spec PyProof.Rows
theorem lookup_mem {α:Type} {x:Str} {c:α}:∀{l:List (Str×α)},l.lookup x=some c→(x,c)∈l
 | [],h=>by cases h
 | (y,d)::r,h=>by
  rw[ae1] at h;cases e:x==y with
  | true=>
   rw[e] at h;have e':x=y:=eq_of_beq e;cases h
   subst e';exact aa9
  | false=>
   rw[e] at h;exact aab _ (lookup_mem h)
noncomputable def vv (ix:List Nat) (σ:St):St:=ix.map λj=>(σ[j]?).getD none
def SubP (cs:List (Str×Addr)):List (Str×Addr)→Prop
 | []=>True
 | p::r=>cs.lookup p.1=some p.2∧SubP cs r
theorem SubP.of {cs:List (Str×Addr)}:∀{cl:List (Str×Addr)},SubP cs cl→∀p∈cl,cs.lookup p.1=some p.2
 | [],_,_,h=>by cases h
 | p::r,⟨h1,h2⟩,q,hq=>by
  rcases List.mem_cons.mp hq with e | e
  ·rw[e];exact h1
  ·exact SubP.of h2 q e
def Cs (X:Cx) (scope:Scope):List Str→List Nat→Prop
 | [],[]=>True
 | x::fr,j::ix=>(X.N[j]?=some x∧X.env.kindOf x=some .cell∧(relabel scope X.env).names.lookup x=some .cell)∧Cs X scope fr ix
 | _,_=>False
theorem Cs.len {X:Cx} {scope:Scope}:∀{fr:List Str} {ix:List Nat},Cs X scope fr ix→fr.length=ix.length
 | [],[],_=>rfl
 | x::fr,j::ix,h=>by rw[aai,aai,Cs.len h.2]
 | [],_::_,h=>h.elim
 | _::_,[],h=>h.elim
theorem Cs.get {X:Cx} {scope:Scope}:∀{fr:List Str} {ix:List Nat},Cs X scope fr ix→∀(k j:Nat),ix[k]?=some j→∃x,fr[k]?=some x∧X.N[j]?=some x∧X.env.kindOf x=some .cell∧(relabel scope X.env).names.lookup x=some .cell
 | [],[],_,k,j,e=>by simp at e
 | x::fr,i::ix,h,0,j,e=>by
  have e':i=j:=by simpa using e
  subst e';exact ⟨x,rfl,h.1⟩
 | x::fr,i::ix,h,k+1,j,e=>by
  obtain ⟨y,hy,r⟩:=Cs.get h.2 k j (by simpa using e);exact ⟨y,by simpa using hy,r⟩
 | [],_::_,h,_,_,_=>h.elim
 | _::_,[],h,_,_,_=>h.elim
structure jt (X:Cx) (scope:Scope) (own fr:List Str) (ix:List Nat) (cl:List (Str×Addr)):Prop where
 clos:closureFor scope X.env=pure cl
 kind:scope.kind=.function
 nocell:(scope.names.all λy=>decide (y.2≠.cell))=true
 names:(scope.names.all λy=>decide (y.2≠.local)||decide (scope.names.lookup y.1=some .local))=true
 sub:SubP X.env.cells cl
 has:((relabel scope X.env).names.all λy=>!(decide (y.2=.cell)||decide (y.2=.free))||(cl.lookup y.1).isSome)=true
 out':Cs X scope fr ix
section
variable {X:Cx} {scope:Scope} {own fr:List Str} {ix:List Nat} {cl:List (Str×Addr)}
theorem jt.len (C:jt X scope own fr ix cl):fr.length=ix.length:=C.out'.len
theorem jt.out (C:jt X scope own fr ix cl):∀(k j:Nat),ix[k]?=some j→∃x,fr[k]?=some x∧X.N[j]?=some x∧Vis X.env.scope x∧X.env.kindOf x≠some .local∧(relabel scope X.env).names.lookup x≠some .local:=λk j e=>by
 obtain ⟨x,h1,h2,h3,h4⟩:=C.out'.get k j e;exact ⟨x,h1,h2,.inr (.inl h3),(by rw[h3];intro z;cases z),(by rw[h4];intro z;cases z)⟩
theorem jt.Oa (C:jt X scope own fr ix cl):∀x∈scope.names,x.2≠.cell:=λx hx=>of_decide_eq_true (List.all_eq_true.mp C.nocell x hx)
theorem jt.Kb (C:jt X scope own fr ix cl):∀x∈scope.names,x.2=.local→scope.names.lookup x.1=some .local:=λx hx e=>by
 have h:=List.all_eq_true.mp C.names x hx;rw[ae7] at h;rcases h with h | h
 ·exact absurd e (of_decide_eq_true h)
 ·exact of_decide_eq_true h
theorem jt.sub' (C:jt X scope own fr ix cl):∀x c,cl.lookup x=some c→X.env.cells.lookup x=some c:=λx c h=>C.sub.of _ (lookup_mem h)
theorem jt.has' (C:jt X scope own fr ix cl):∀x,((relabel scope X.env).names.lookup x=some .cell∨(relabel scope X.env).names.lookup x=some .free)→∃c,cl.lookup x=some c:=λx hx=>by
 have key:∀k,(relabel scope X.env).names.lookup x=some k→(k=.cell∨k=.free)→∃c,cl.lookup x=some c:=λk e hk=>by
  have h:=List.all_eq_true.mp C.has (x,k) (lookup_mem e);rw[ae7] at h;rcases h with h | h
  ·rcases hk with rfl | rfl
   ·simp at h
   ·simp at h
  ·exact Option.isSome_iff_exists.mp h
 rcases hx with h | h
 ·exact key _ h (.inl rfl)
 ·exact key _ h (.inr rfl)
end
noncomputable def cxC (X:Cx) (scope:Scope) (cl:List (Str×Addr)) (ns:List Str) (fp:List Addr) (s:Shared) (H:Hp):Cx where
 prog:=X.prog
 w:=X.w
 K:=X.K
 mg:=X.mg
 base:=X.base
 A:=X.A
 N:=ns
 s₀:=s
 H₀:=H
 env:=compEnvC scope cl s.heap.objs.size X.env
 outer:=X.stack
 stack:=X.stack
 ex:=fp
 fn:=λ_=>false
 calm:=X.calm
 pn:=[]
 xe:=λ_ _=>False
section
variable {X:Cx} {scope:Scope} {own fr:List Str} {ix:List Nat} {cl:List (Str×Addr)} {pins:List (Addr×Obj)} {σ:St} {H:Hp} {s:Shared} {fp:List Addr}
theorem cxC_ok (C:jt X scope own fr ix cl) (I:Inv X pins σ H s) (f:∀b∈fp,qg X pins H b) (lt:∀b∈fp,b < s.heap.objs.size):(cxC X scope cl (own++fr) fp s H).Ok where
 mod:=I.ok.mod
 kind:=C.kind
 glob:=I.ok.glob
 blt:=I.ok.blt
 above:=aa4 _
 inj:=λx y c h1 h2=>I.ok.inj x y c (C.sub' x c h1) (C.sub' y c h2)
 has:=λx hx=>C.has' x hx
 cab:=λx c h _=>aex h
 hd:=I.ok.hd
 frames:=I.ok.frames
 stk:=.inl rfl
 exf:=λb hb=>⟨aao (lt b hb),λx c e=>(f b hb).2.2.2.2.1 x c (C.sub' x c e)⟩
 bs:=λb o e=>I.bs b o e
 bsz:=aar I.ok.bsz I.sz
 noex:=λb o e hb=>by
  rcases (f b hb).2.2.2.1 with z | z
  ·exact I.ok.noex b o e z
  ·exact absurd (aam (Heap.lt_size e) (aar I.ok.bsz z)) (abg _)
 exfs:=λb hb z=>by
  rcases List.mem_cons.mp (I.Ei b z) with q | q
  ·exact (f b hb).2.1 q
  ·exact (f b hb).2.2.1 q
 o8:=I.stack
 frf:=I.zq
theorem Kp (C:jt X scope own fr ix cl) (I:Inv X pins σ H s) (f:∀b∈fp,qg X pins H b) (lt:∀b∈fp,b < s.heap.objs.size) {h₁:Heap} {t:Nat} {m:Str→Option Value}
  (hns:h₁.Ns s.heap.objs.size m) (k:∀b o,s.heap.get? b=some o→h₁.get? b=some o):
  Inv (cxC X scope cl (own++fr) fp s H) [] (aak own.length none++vv ix σ) H { s with heap:=h₁,toks:=t } where
 ok:=cxC_ok C I f lt
 os:=rfl
 bare:=I.bare
 base:=Un.kept k
 loc:=⟨m,hns,λi x v e1 e2 e3=>by
  have e1:(own++fr)[i]?=some x:=e1;by_cases hi:i < own.length
  ·rw[aag (by simpa using hi),ae5] at e2;rw[if_pos hi] at e2;cases e2
  ·have hi':own.length≤i:=aev hi;rw[aad (by simpa using hi')] at e2;rw[aad hi'] at e1;rw[abb] at e2;unfold vv at e2;rw[aaa] at e2;cases q:ix[i - own.length]? with
   | none=>rw[q] at e2;cases e2
   | some j=>
    rw[q] at e2;have e2':(σ[j]?).getD none=some v:=aa3 e2;obtain ⟨x',hx',hN,hv,hk,hl'⟩:=C.out _ j q;rw[e1] at hx';cases hx'
    have e4:σ[j]?=some (some v):=by
     cases z:σ[j]? with
     | none=>rw[z] at e2';cases e2'
     | some w=>rw[z] at e2';exact congrArg some e2'
    obtain ⟨mX,hnX,hl⟩:=I.loc;obtain ⟨u,r,l⟩:=hl j x v hN e4 hv;rcases l with ⟨kl,_⟩ | ⟨kk,c,ec,z⟩
    ·exact absurd kl hk
    ·have kY:(relabel scope X.env).names.lookup x=some .cell∨(relabel scope X.env).names.lookup x=some .free:=by
      rcases e3 with e3 | e3 | e3
      ·exact absurd e3 hl'
      ·exact .inl e3
      ·exact .inr e3
     obtain ⟨c',hc'⟩:=C.has' x kY;have hcc:=C.sub' x c' hc';rw[ec] at hcc;cases hcc
     obtain ⟨o,ho,hd⟩:=z;exact ⟨u,r,.inr ⟨kY,c,hc',⟨o,k c o ho,hd⟩⟩⟩⟩
 cell:=λx c e=>by
  obtain ⟨v,o,ho,hd⟩:=I.cell x c (C.sub' x c e);exact ⟨v,o,k c o ho,hd⟩
 free:=I.hok.fresh (aa4 _)
 freeC:=λx c e=>I.freeC x c (C.sub' x c e)
 pin:=λp hp=>by cases hp
 hok:=I.hok.kept k
 len:=by
  show (aak own.length none++vv ix σ).length=(own++fr).length
  rw[aa2,aa2,abb,C.len];unfold vv;rw[aa1]
theorem J9 (I:Inv X pins σ H s) (f:∀b∈fp,qg X pins H b) {ns:List Str} {τ:St} {H':Hp} {s':Shared} {pins':List (Addr×Obj)} (J:Inv (cxC X scope cl ns fp s H) pins' τ H' s'):Inv X pins σ H' s':=
 I.Kc (ch:=fp) J.os J.base J.hok J.bare λb hb=>⟨(f b hb).2.2.2.1,(f b hb).2.1,(f b hb).2.2.2.2.1,(f b hb).2.2.2.2.2⟩
theorem Cm {σ':St} (I:Inv X pins σ H s) {H':Hp} {s':Shared} {h':Heap} (J:Inv X pins σ' H' s') (free:H' s.heap.objs.size=none) (sb:Heap.SameBut s.heap.objs.size s'.heap h'):Inv X pins σ' H' { s' with heap:=h' }:=
 J.turned (it:=s.heap.objs.size) (t':=s'.toks) (λb o hb e=>(sb.2 b hb).trans e) free (abc I.lt) (.inr I.sz)
  (λx c e z=>by
   obtain ⟨v,q⟩:=I.cell x c e;exact absurd (z ▸ q.lt) (abg _))
  (λp hp z=>absurd (z ▸ Heap.lt_size (I.pin p hp).1) (abg _))
end
section
variable {prog:Program} {w:World} {A:Around} {R:Result→Shared→Prop} {s:Shared}
theorem Ae {elt target iter:Expr} {ifs:List Expr} {scope:Scope} {pos:Pos} {it acc:Value} {env:Env} (I:Nat→Shared→Prop)
  (turn:∀n s,I n s→wpAny (model prog w) A (pyNext it) (λr s₁=>match r with
   | none=>R (.ok .next) s₁
   | some v=>wpAny (model prog w) A (letOwnedTupleGo target it v) (λ_ s₁'=>wpAny (model prog w) A (assign target env v) (λ_ s₂=>
     wpAny (model prog w) A (forIn ifs true λc r=>if r=true then do let ok ←isTrue c env (eval c env);pure (ForInStep.yield ok) else pure (ForInStep.yield r)) (λok s₃=>
      if ok=true then wpAny (model prog w) A (eval elt env) (λx s₄=>
       wpAny (model prog w) A (call (.builtin "list.append") [acc,x]) (λ_ s₅=>∃m,m < n∧I m s₅) (notedBy (model prog w) A env λe s'=>R (.error e) s') s₄) (notedBy (model prog w) A env λe s'=>R (.error e) s') s₃
      else ∃m,m < n∧I m s₃) (notedBy (model prog w) A env λe s'=>R (.error e) s') s₂) (notedBy (model prog w) A env λe s'=>R (.error e) s') s₁') (notedBy (model prog w) A env λe s'=>R (.error e) s') s₁)
    (notedBy (model prog w) A env λe s'=>R (.error e) s') s)
  (n:Nat) (h:I n s):
  codeAny (model prog w) A (.compLoop (.ListComp elt [⟨target,iter,ifs,0⟩] scope pos) 0 it acc env) R s:=by
 refine codeAny_loop rfl I (λn s hI=>?_) n h;show wpAny _ A ((compTurn (.ListComp elt [⟨target,iter,ifs,0⟩] scope pos) 0 it acc env).onRaise (λx=>do noteFrame x env;theTreesLotGoes x)) _ _ s
 refine wpAny_noted ?_;rw[compTurn_list];refine wpAny_bind (wpAny_standAt (wpAny_bind (wpAny_mono (turn n s hI) (λr s₁ h₁=>?_) λ_ _ h'=>h')));cases r with
 | none=>exact wpAny_pure h₁
 | some v=>
  refine wpAny_bind (wpAny_mono h₁ (λ_ s₁' h₁'=>?_) λ_ _ h'=>h');refine wpAny_bind (wpAny_mono h₁' (λ_ s₂ h₂=>wpAny_bind (wpAny_mono h₂ (λok s₃ h₃=>?_) λ_ _ h'=>h')) λ_ _ h'=>h');cases ok with
  | false=>exact wpAny_pure ⟨rfl,h₃⟩
  | true=>
   exact wpAny_bind (wpAny_bind (wpAny_mono h₃ (λx s₄ h₄=>wpAny_bind (wpAny_mono h₄ (λ_ s₅ h₅=>wpAny_pure (wpAny_pure ⟨rfl,h₅⟩)) λ_ _ h'=>h')) λ_ _ h'=>h'))
end
def PIfs (X:Cx) (ifs:List Expr) (t:TT):Prop:=
 ∀(pins:List (Addr×Obj)) (s:Shared) (σ:St) (H:Hp) (Q:Bool→Hp→Prop),Inv X pins σ H s→t σ H Q→
  wpAny (model X.prog X.w) X.A (forIn ifs true λc r=>if r=true then do let ok ←isTrue c X.env (eval c X.env);pure (ForInStep.yield ok) else pure (ForInStep.yield r)) (TP X pins σ Q) X.xe s
def tNoIf:TT:=λ_ H Q=>Q true H
theorem pif0 {X:Cx}:PIfs X [] tNoIf:=λpins s σ H Q I h=>wpAny_tests_nil ⟨H,I,h⟩
theorem pif1 {X:Cx} {c:Expr} {t:TT} (h:PT X c t):PIfs X [c] t:=λpins s σ H Q I q=>wpAny_tests_one (h pins s σ H Q I q)
def LC (n:Nat) (fr:St) (g:TG) (tc:TT) (te:TE) (J:It) (D:Addr) (H1:Hp) (Q:Hp→Prop):Prop:=
 ∃W:Nat→Nat→Hp→Prop,(∃m,W 0 m (upd H1 D (.lst [])))∧∀i m H,W i m H→
  (J.stop i H∧Q H)∨(J.go i H∧∀(τ:St) x H',τ.length=n→J.yld i H x H'→g x (τ++fr) H' λσ2 H2=>(∃τ':St,τ'.length=n∧σ2=τ'++fr)∧tc σ2 H2 λb H3=>
   if b=true then te σ2 H3 λy H4=>∃ys,H4 D=some (.lst ys)∧ys.length < sizeLine∧∃m',m' < m∧W (i+1) m' (upd H4 D (.lst (ys++[y]))) else ∃m',m' < m∧W (i+1) m' H3)
def tLC (n:Nat) (ix:List Nat) (wi:TI) (g:TG) (tc:TT) (te:TE):TE:=λσ H Q=>wi σ H λJ H1=>∀D,H1 D=none→LC n (vv ix σ) g tc te J D H1 λH'=>Q (.ref D) H'
section
variable {X:Cx} {scope:Scope} {own fr:List Str} {ix:List Nat} {cl:List (Str×Addr)} {elt iter tg:Expr} {ifs:List Expr} {pos:Pos} {wi:TI} {g:TG} {tc:TT} {te:TE}
theorem vo {E:Value→Shared→Prop} {RR:Value→Addr→Result→Shared→Prop} (C:jt X scope own fr ix cl) (hc:X.calm=true)
  (hg:∀fp s H,PG (cxC X scope cl (own++fr) fp s H) tg g) (ht:∀fp s H,PIfs (cxC X scope cl (own++fr) fp s H) ifs tc) (he:∀fp s H,PE (cxC X scope cl (own++fr) fp s H) elt te)
  {pins:List (Addr×Obj)} {σ:St} {H2:Hp} {s2:Shared} {it:Addr} {fp:List Addr} {tn:Nat→Heap→Prop} {J:It} {Q:Hp→Prop} (I2:Inv X pins σ H2 s2) (T:Turn X.prog X.w X.K tg J fp it tn) (st2:tn 0 s2.heap) (f2:∀b∈fp,qg X pins H2 b)
  (q:LC own.length (vv ix σ) g tc te J s2.heap.objs.size H2 Q)
  (hRR:∀(s3 s':Shared) (H3 H':Hp) (τ:St),Inv X pins σ H3 s3→Inv X pins σ H' s'→H' s3.heap.objs.size=none→(∃m,s'.heap.Ns s3.heap.objs.size m)→Q H'→RR (.ref s2.heap.objs.size) s3.heap.objs.size (.ok .next) s'):
  wpAny (model X.prog X.w) X.A (newList []) (λacc s₃=>wpAny (model X.prog X.w) X.A (newFunctionEnv scope X.env.globals cl [] X.env.qual none .none (some X.env)) (λcenv s₄=>
   codeAny (model X.prog X.w) X.A (.compStart (.ListComp elt [⟨tg,iter,ifs,0⟩] scope pos) 0 (.ref it) acc { cenv with scope:=relabel scope X.env }) (RR acc cenv.locals) s₄) E s₃) E s2:=by
 refine wpAny_newObj_type ?_;have I3:Inv X pins σ (upd H2 s2.heap.objs.size (.lst [])) { s2 with heap:=s2.heap.push { cls:=.type "list",dict:=none,data:=.seq ([]:List Value).toArray } }:=I2.lnew (t':=s2.toks) (its:=[]) .nil (aa7 _);have lt2:∀b∈fp,b < s2.heap.objs.size:=λb hb=>by
  obtain ⟨o,e,_⟩:=T.obj 0 _ st2 b hb;exact Heap.lt_size e
 have fneD:∀b∈fp,b≠s2.heap.objs.size:=λb hb=>aao (lt2 b hb);generalize hs3:({ s2 with heap:=s2.heap.push { cls:=.type "list",dict:=none,data:=.seq ([]:List Value).toArray } }:Shared)=s3 at I3 ⊢;have hsz:s3.heap.objs.size=s2.heap.objs.size+1:=by rw[←hs3];exact Heap.size_push ..
 have kp23:∀b o,s2.heap.get? b=some o→s3.heap.get? b=some o:=λb o e=>by rw[←hs3];exact Heap.get?_push_of_some _ e
 have f3:∀b∈fp,qg X pins (upd H2 s2.heap.objs.size (.lst [])) b:=λb hb=>by
  obtain ⟨f0,fr⟩:=f2 b hb;exact ⟨by rw[ag (fneD b hb)];exact f0,fr⟩
 have lt3:∀b∈fp,b < s3.heap.objs.size:=λb hb=>by rw[hsz];exact acj (lt2 b hb)
 refine wpAny_newFunctionEnv C.Oa (by intro y hy;simp at hy) (λh₁ hns₁ hsb₁=>?_) C.kind;have k34:∀b o,s3.heap.get? b=some o→h₁.get? b=some o:=λb o e=>
  (hsb₁.2 b (aao (Heap.lt_size e))).trans (Heap.get?_push_of_some _ e)
 have I4:=Kp C I3 f3 lt3 (t:=s3.toks+([]:List (Str×Value)).length) hns₁ k34;have st4:tn 0 h₁:=T.keep 0 _ _ st2 λb _ o e=>k34 b o (kp23 b o e);obtain ⟨W,⟨m0,w0⟩,turn⟩:=q;have loop:∀s4:Shared,s4={ s3 with heap:=h₁,toks:=s3.toks+([]:List (Str×Value)).length }→
   codeAny (model X.prog X.w) X.A (.compLoop (.ListComp elt [⟨tg,iter,ifs,0⟩] scope pos) 0 (.ref it) (.ref s2.heap.objs.size) (compEnvC scope cl s3.heap.objs.size X.env)) (RR (.ref s2.heap.objs.size) s3.heap.objs.size) s4:=by
  rintro s4 rfl;have stat:∀{H':Hp},(∀b∈fp,H' b=none)→∀b∈fp,qg (cxC X scope cl (own++fr) fp s3 (upd H2 s2.heap.objs.size (.lst []))) [] H' b:=λ{H'} hn b hb=>
   ⟨hn b hb,aao (lt3 b hb),I4.ok.exfs b hb,.inl hb,(I4.ok.exf b hb).2,λp hp=>by cases hp⟩
  refine Ae (λn s'=>∃i τ H',τ.length=own.length∧Inv (cxC X scope cl (own++fr) fp s3 (upd H2 s2.heap.objs.size (.lst []))) [] (τ++vv ix σ) H' s'∧tn i s'.heap∧(∀b∈fp,H' b=none)∧W i n H') ?_ m0
   ⟨0,aak own.length none,_,abb,I4,st4,λb hb=>(f3 b hb).1,w0⟩
  rintro n s5 ⟨i,τ,H5,hτ,I5,st5,fr5,w5⟩;rcases turn i n H5 w5 with ⟨stop,qn⟩ | ⟨go,step⟩
  ·refine wpAny_mono (T.done (cxC X scope cl (own++fr) fp s3 (upd H2 s2.heap.objs.size (.lst []))) rfl rfl rfl hc i [] s5 _ H5 (λ_ _=>False) I5 (stat fr5) st5 stop) (λr s6 ⟨hr,I6⟩=>?_) λ_ _ z=>z.elim;subst hr;obtain ⟨mm,hmm,_⟩:=I6.loc;exact hRR s3 s6 _ H5 τ I3 (J9 I3 f3 I6) I6.free ⟨mm,hmm⟩ qn
  ·refine wpAny_mono (T.item (cxC X scope cl (own++fr) fp s3 (upd H2 s2.heap.objs.size (.lst []))) rfl rfl rfl hc i [] s5 _ H5 (λ_ _=>False) I5 (stat fr5) st5 go) (λr s6 ⟨u,hr,h6⟩=>?_) λ_ _ z=>z.elim;subst hr;refine wpAny_mono h6 (λ_ s7 ⟨x,H7,I7,r7,y7,st7,fr7⟩=>?_) λ_ _ z=>z.elim;have I7':=I7.pinned (stat fr7) (T.obj _ _ st7);refine wpAny_mono (hg fp s3 _ _ s7 _ H7 x u _ I7' r7 (step τ x H7 hτ y7)) (λ_ s8 ⟨σ8,H8,I8,⟨τ',hτ',e8⟩,q8⟩=>?_) λ_ _ z=>z.elim;have fin:∀{H9:Hp} {s9:Shared},Inv (cxC X scope cl (own++fr) fp s3 (upd H2 s2.heap.objs.size (.lst []))) ([]++uc fp s7.heap) σ8 H9 s9→(∃m',m' < n∧W (i+1) m' H9)→
     ∃m,m < n∧∃i τ H',τ.length=own.length∧Inv (cxC X scope cl (own++fr) fp s3 (upd H2 s2.heap.objs.size (.lst []))) [] (τ++vv ix σ) H' s9∧tn i s9.heap∧(∀b∈fp,H' b=none)∧W i m H':=λ{H9 s9} I9 hw=>by
    obtain ⟨m',hm,w9⟩:=hw;refine ⟨m',hm,i+1,τ',H9,hτ',e8 ▸ I9.ni,T.keep _ _ _ st7 λb hb o e=>(I9.pin (b,o) (aau _ (aau _ (jf hb e)))).1,λb hb=>?_,w9⟩;obtain ⟨o,e,d⟩:=T.obj _ _ st7 b hb;exact (I9.pin (b,o) (aau _ (aau _ (jf hb e)))).2.1
   refine wpAny_mono (ht fp s3 _ _ s8 σ8 H8 _ I8 q8) (λok s9 ⟨H9,I9,q9⟩=>?_) λ_ _ z=>z.elim;cases ok with
   | false=>exact fin I9 q9
   | true=>
    refine wpAny_mono (he fp s3 _ _ s9 σ8 H9 _ I9 q9) (λy s10 ⟨v10,H10,I10,r10,ys,hD,hz,q10⟩=>?_) λ_ _ z=>z.elim;refine wpAny_mono (xo (X:=cxC X scope cl (own++fr) fp s3 (upd H2 s2.heap.objs.size (.lst []))) _ s10 σ8 H10 (.ref s2.heap.objs.size) [v10] _ [y] (λ_ H'=>∃m',m' < n∧W (i+1) m' H') I10 rfl (.cons r10 .nil) ⟨_,ys,v10,rfl,rfl,hD,hz,q10⟩) (λ_ s11 ⟨_,H11,I11,_,q11⟩=>?_) λ_ _ z=>z.elim;exact fin I11 q11
 exact codeAny_compStart_list (loop _ rfl) (T.self _ 0 _ _ _ st4 (loop _ rfl))
theorem pe_lc (C:jt X scope own fr ix cl) (hc:X.calm=true) (hi:PI X tg iter wi) (hg:∀fp s H,PG (cxC X scope cl (own++fr) fp s H) tg g)
  (ht:∀fp s H,PIfs (cxC X scope cl (own++fr) fp s H) ifs tc) (he:∀fp s H,PE (cxC X scope cl (own++fr) fp s H) elt te)
  (hs:∀x,foldedSetIterable iter X.env x=pure x:=by intro _;rfl):PE X (.ListComp elt [⟨tg,iter,ifs,0⟩] scope pos) (tLC own.length ix wi g tc te):=by
 intro pins s σ H Q I h;rw[eval_ListComp];refine wpAny_comprehension_free (use:=none) rfl hs C.clos C.kind C.Kb (thn (hi pins s σ H _ I h) λv s1 h1=>thn h1 λitv s2 h2=>?_);obtain ⟨it,fp,tn,J,H2,e,I2,T,st2,f2,q⟩:=h2;subst e;refine vo (RR:=λacc D=>compPost (model X.prog X.w) X.A X.xe none (EP X pins σ Q) acc D) C hc hg ht he I2 T st2 f2 (q _ (I2.hok.fresh (aa4 _))) λs3 s' H3 H' τ I3 I' hn hm q'=>?_;obtain ⟨m,hm⟩:=hm;exact ⟨m,hm,λh' sb=>⟨.ref s2.heap.objs.size,H',Cm I3 I' hn sb,rfl,q'⟩⟩
def Kt (i n:Nat) (ix:List Nat) (wi:TI) (g:TG) (tc:TT) (te:TE):TS:=λD σ H=>wi σ H λJ H1=>∀l,H1 l=none→LC n (vv ix σ) g tc te J l H1 λH'=>D.nx (σ.set i (some (.ref l))) H'
theorem J3 {i:Nat} {x:Str} {px spos:Pos} (hN:X.N.Nodup) (hx:X.N[i]?=some x) (hl:Loc X.env.scope x) (C:jt X scope own fr ix cl) (hc:X.calm=true) (hi:PI X tg iter wi)
  (hg:∀fp s H,PG (cxC X scope cl (own++fr) fp s H) tg g) (ht:∀fp s H,PIfs (cxC X scope cl (own++fr) fp s H) ifs tc) (he:∀fp s H,PE (cxC X scope cl (own++fr) fp s H) elt te)
  (hsw:swapsWith (.ListComp elt [⟨tg,iter,ifs,0⟩] scope pos) (some (.Name x px)) spos.line X.env=pure true:=by rfl)
  (hs:∀x,foldedSetIterable iter X.env x=pure x:=by intro _;rfl) (hf:X.fn x=true∨X.env.scope.names.lookup x=some .local:=by first | exact .inl rfl | exact .inr rfl | assumption):
  PS X (.Assign [.Name x px] (.ListComp elt [⟨tg,iter,ifs,0⟩] scope pos) spos) (Kt i own.length ix wi g tc te):=by
 intro pins s σ H D I h;rw[exec_Assign_Name_used _ _ _ _ hsw];refine wpAny_bind (wpAny_standAt (wpAny_bind ?_));show wpAny _ X.A (do let _ ←comprehension (.ListComp elt [⟨tg,iter,ifs,0⟩] scope pos) scope X.env _ (newList []) false (eval iter X.env) (some (assign (.Name x px) X.env))) _ _ s
 refine wpAny_bind (wpAny_mono (wpAny_comprehension_free (use:=some (assign (.Name x px) X.env)) (Q:=λ_ s'=>SP X pins D .next s') rfl hs C.clos C.kind C.Kb
  (thn (hi pins s σ H _ I h) λv s1 h1=>thn h1 λitv s2 h2=>?_)) (λ_ s' hq=>wpAny_pure (wpAny_pure hq)) λ_ _ e=>e)
 obtain ⟨it,fp,tn,J,H2,e,I2,T,st2,f2,q⟩:=h2;subst e;refine vo (RR:=λacc C=>compPost (model X.prog X.w) X.A X.xe (some (assign (.Name x px) X.env)) (λ_ s'=>SP X pins D .next s') acc C) C hc hg ht he I2 T st2 f2 (q _ (I2.hok.fresh (aa4 _))) λs3 s' H3 H' τ I3 I' hn hm q'=>?_;obtain ⟨m,hm⟩:=hm;show wpAny _ X.A (assign (.Name x px) X.env (.ref s2.heap.objs.size)) _ _ _
 refine wpAny_assign_Name (xl I' hN hx hl (v:=.ref s2.heap.objs.size) rfl (λs'' I'' hsb=>?_) hf);obtain ⟨a,sba,ha⟩:=hsb;have hne:s3.heap.objs.size≠a:=by
  rcases ha with rfl | ha
  ·exact abc I3.lt
  ·obtain ⟨v,qv⟩:=I3.cell x a ha;exact abc qv.lt
 exact ⟨m,hm.sameBut sba hne,λh' sb=>⟨_,H',Cm I3 I'' hn sb,q'⟩⟩
end
noncomputable def Its (z:Str):It:=⟨λi _=>i < z.cps.size,λi H x H'=>H'=H∧∃c,z.cps[i]?=some c∧x=.str ⟨#[c]⟩,λi _=>i=z.cps.size⟩
def iStr (tl:TE):TI:=λσ H R=>tl σ H λx H1=>∃z,x=.str z∧R (Its z) H1
noncomputable def cutS (z:Str) (lo hi:Option Int):Str:=⟨((z.cps.toList.drop (HT.sIx z.length 0 lo)).take (HT.sIx z.length z.length hi - HT.sIx z.length 0 lo)).toArray⟩
section
variable {X:Cx}
def rSlS:V→Option Int→Option Int→Hp→VK→Prop:=λx lo hi H Q=>∃z,x=.str z∧z.length≤sizeLine∧Q (.str (cutS z lo hi)) H
noncomputable def lz (z:Str) (n:Nat):Str:=⟨(aak n z.cps.toList).flatten.toArray⟩
theorem wx (x:List Nat):∀(n:Nat) (acc:Array Nat),(aak n x.toArray).foldl (·++·) acc=acc++(aak n x).flatten.toArray
 | 0,acc=>by simp
 | n+1,acc=>by
  rw[ab5,af4,wx x n,ab5,abx];apply Array.toList_inj.mp
  simp
theorem Ou (z:Str) (n:Int) (h:0≤n):Txt.mul z n=lz z n.toNat:=by
 unfold Txt.mul lz;by_cases h1:n < 1
 ·rw[if_pos h1];have e:n.toNat=0:=by omega
  rw[e];rfl
 ·rw[if_neg h1];by_cases h2:(n==1||z.length==0)=true
  ·rw[if_pos h2];rw[ae7] at h2;rcases h2 with h2 | h2
   ·have e:n=1:=eq_of_beq h2;subst e;show z=⟨(aak 1 z.cps.toList).flatten.toArray⟩
    simp
   ·have e:z.length=0:=eq_of_beq h2;have e0:z.cps=#[]:=Array.eq_empty_of_size_eq_zero e;cases z with
    | mk c=>cases e0;simp
  ·rw[if_neg h2];have e:=wx z.cps.toList n.toNat #[];have e3:z.cps.toList.toArray=z.cps:=by simp
   rw[e3] at e;rw[e];simp
theorem ly:OpR X (binaryOp .Mult) (λx y H Q=>∃z n,x=.str z∧y=.int n∧0≤n∧n≤1000∧z.length≤1000∧Q (.str (lz z n.toNat)) H):=by
 intro pins s σ H x y v u Q I rx ry h;obtain ⟨z,n,rfl,rfl,h0,h1,h2,q⟩:=h;obtain ⟨t,rfl⟩:=rx;obtain ⟨t',rfl⟩:=ry;have hb:z.length*n.toNat≤1000*1000:=ad2 h2 (by omega);refine SB.mul ⟨by rw[Bool.or_eq_false_iff];exact ⟨decide_eq_false (by omega),decide_eq_false (by omega)⟩,λhn1 _=>?_,λ_ _=>?_⟩ λt' k=>⟨.str _,H,I.tok _,⟨_,rfl⟩,by rw[Ou z n h0];exact q⟩
 ·have hp:0 < n:=by omega
  have h3:(z.length:Int)*n≤1000*n:=Int.mul_le_mul_of_nonneg_right (by omega) h0;have h4:(z.length:Int)≤(2 ^ 63 - 1) / n:=Int.le_ediv_of_mul_le hp (by omega);omega
 ·unfold Builtin.Str.tooLong;exact decide_eq_false (by have:=sizeLine_eq;omega)
theorem gg:jn X (.builtin "isinstance") (λxs H Q=>∃x n t b,xs=[x,.ty n]∧qc X.K H x t∧PySem.W.kitOne X.K t (.type n)=some b∧Q (.bl b) H):=by
 intro pins s σ H xs us Q I r h;obtain ⟨x,n,t,b,rfl,ty,e,q⟩:=h;obtain ⟨u,u2,rfl,r1,r2⟩:=vals2 r;cases (show u2=Value.type n from r2)
 exact Hk I r1 ty e λtk=>⟨.bl b,H,I.tok tk,rfl,q⟩
end
theorem aa {H:Hp} {p:Addr} (h:H p=none) (o:HO):ah H (upd H p o):=λb u q=>by rw[ag (af q h)];exact q
theorem ah.upd {H H':Hp} {p:Addr} (e:ah H H') (h:H p=none) (o:HO):ah H (L2.upd H' p o):=λb u q=>by rw[ag (af q h)];exact e b u q
theorem ah.tup {K:PySem.W.Frag} {H H':Hp} {a:Addr} {xs:List V} (e:ah H H') (h:SqT K H a xs):SqT K H' a xs:=by
 rcases h with (h | ⟨o,h⟩) | h
 ·exact .inl (.inl (e _ _ h))
 ·exact .inl (.inr ⟨o,e _ _ h⟩)
 ·exact .inr h
def Has (P:Program) (w:World) (K:PySem.W.Frag) (mg:Str→Option Value) (base:Heap) (k:Nat) (x:Str) (ps:List Str) (sp:Sp):Prop:=
 ∃(f:Addr) (fd:FuncData),l9 P w K mg base CX0 k f fd ps sp∧Binds K fd ps []∧PySem.W.keepIn K (.ref f)=true∧mg x=some (.ref f)
theorem Has.up {P:Program} {w:World} {K:PySem.W.Frag} {mg:Str→Option Value} {base:Heap} {j k:Nat} {x:Str} {ps:List Str} {sp:Sp} (h:Has P w K mg base j x ps sp) (l:j≤k):Has P w K mg base k x ps sp:=by
 obtain ⟨f,fd,F,r⟩:=h;exact ⟨f,fd,F.mono l,r⟩
def Def (K:PySem.W.Frag) (mg:Str→Option Value) (x:Str) (st:Stmt) (ps:List Str):Prop:=
 ∃(f:Addr) (fd:FuncData),Fun K x x st f fd∧Binds K fd ps []∧mg x=some (.ref f)
theorem Def.has {P:Program} {w:World} {K:PySem.W.Frag} {mg:Str→Option Value} {base:Heap} {k:Nat} {x:Str} {st:Stmt} {N ps:List Str} {sp:Sp} (D:Def K mg x st ps) (S:av N ps (ak st)) (len:∀vs H Q E,sp vs H Q E→vs.length=ps.length)
  (hbody:∀(f:Addr) (cdv:Value) (A:Around) (outer:List Env) (s:Shared) (H:Hp) (vs:List V) (Q:VK) (E:XK),fm k (A.deeper (envOfC x (ak st) s.heap.objs.size f cdv))→sp vs H Q E→
   ∃t,PSs (ma CX0 P w K mg base N x (ak st) f cdv A outer s H E).nox (cg st) t∧t { nx:=λ_ H'=>Q .non H',rt:=Q } (start N vs) H):Has P w K mg base (k+1) x ps sp:=by
 obtain ⟨f,fd,F,b,m⟩:=D;exact ⟨f,fd,F.ok S len λcdv A outer s H vs Q E hr h=>hbody f cdv A outer s H vs Q E hr h,b,F.kp,m⟩
section
variable {X:Cx} {k:Nat} {ps:List Str} {sp:Sp} {x:Str} {p pos:Pos} {e:Expr} {es:List Expr} {t:TA}
theorem pe_has (h:Has X.prog X.w X.K X.mg X.base k x ps sp) (hr:fm k X.A) (ha:PA X (e::es) t) (hg:Gl X x:=by rfl) (hdb:(x==("__debug__":Str))=false:=by decide+kernel)
  (he:starEach (e::es) X.env=(false,eval e X.env)::starEach es X.env:=by rfl) (hpl:(backTo pos (starEach es X.env)).any (·.1)=false:=by rfl):
  PE X (.Call (.Name x p) (e::es) [] pos) (Az sp [] E0 t):=by
 obtain ⟨f,fd,F,b,kp,m⟩:=h;exact Af F hr hg m kp b .nil pass0 ha hdb he hpl
end
theorem Eo {J:It} {fr:St} {tc:TT} {te:TE} {D:Addr} {H1:Hp} {Q:Hp→Prop} (n:Nat) (item:Nat→V) (P:Nat→List V→Prop) (hn:n < sizeLine) (hD:H1 D=none)
  (hgo:∀i H,i < n→ah H1 H→J.go i H) (hyld:∀i H x H',i < n→ah H1 H→J.yld i H x H'→H'=H∧x=item i) (hstop:∀H,ah H1 H→J.stop n H)
  (h0:P 0 [])
  (step:∀i ys H (G:Hp→Prop) (K':V→Hp→Prop),i < n→P i ys→ys.length≤i→ah H1 H→(∀H3,ah H H3→P (i+1) ys→G H3)→(∀y H4,ah H H4→P (i+1) (ys++[y])→K' y H4)→tc ([some (item i)]++fr) H λb H3=>if b=true then te ([some (item i)]++fr) H3 K' else G H3)
  (done:∀ys H,P n ys→ys.length≤n→ah H1 H→H D=some (.lst ys)→Q H):LC 1 fr (cb 0) tc te J D H1 Q:=by
 refine ⟨λi m H=>m=n - i∧i≤n∧∃ys,H D=some (.lst ys)∧P i ys∧ys.length≤i∧ah H1 H,⟨n,by simp,aa7 _,[],ae,h0,aa4 _,aa hD _⟩,?_⟩;rintro i m H ⟨rfl,hi,ys,hys,hP,hl,hS⟩;by_cases hlt:i < n
 ·refine .inr ⟨hgo i H hlt hS,λτ x H' hτ hy=>?_⟩;obtain ⟨e1,e2⟩:=hyld i H x H' hlt hS hy;subst e1 e2;obtain ⟨a,rfl⟩:∃a,τ=[a]:=List.length_eq_one_iff.mp hτ;refine ⟨⟨[some (item i)],rfl,rfl⟩,step i ys H' (λH3=>∃m',m' < n - i∧m'=n - (i+1)∧i+1≤n∧∃ys,H3 D=some (.lst ys)∧P (i+1) ys∧ys.length≤i+1∧ah H1 H3)
   (λy H4=>∃zs,H4 D=some (.lst zs)∧zs.length < sizeLine∧∃m',m' < n - i∧m'=n - (i+1)∧i+1≤n∧∃ys,upd H4 D (.lst (zs++[y])) D=some (.lst ys)∧P (i+1) ys∧ys.length≤i+1∧ah H1 (upd H4 D (.lst (zs++[y])))) hlt hP hl hS (λH3 q1 q2=>?_) (λy H4 q1 q2=>?_)⟩
  ·exact ⟨n - (i+1),by omega,rfl,hlt,ys,q1 _ _ hys,q2,ad5 hl,hS.trans q1⟩
  ·refine ⟨ys,q1 _ _ hys,by omega,n - (i+1),by omega,rfl,hlt,ys++[y],ae,q2,?_,(hS.trans q1).upd hD _⟩;rw[aa2,aac];omega
 ·have e:i=n:=by omega
  subst e;exact .inl ⟨hstop H hS,done ys H hP hl hS hys⟩
theorem Oj {K:PySem.W.Frag} {a:Addr} {xs:List V} {fr:St} {tc:TT} {te:TE} {D:Addr} {H1:Hp} {Q:Hp→Prop} (P:Nat→List V→Prop) (hS:SqL K H1 a xs) (hn:xs.length < sizeLine) (hD:H1 D=none) (h0:P 0 [])
  (step:∀i x ys H (G:Hp→Prop) (K':V→Hp→Prop),xs[i]?=some x→P i ys→ys.length≤i→ah H1 H→(∀H3,ah H H3→P (i+1) ys→G H3)→(∀y H4,ah H H4→P (i+1) (ys++[y])→K' y H4)→tc ([some x]++fr) H λb H3=>if b=true then te ([some x]++fr) H3 K' else G H3)
  (done:∀ys H,P xs.length ys→ys.length≤xs.length→ah H1 H→H D=some (.lst ys)→Q H):LC 1 fr (cb 0) tc te (Itl K a) D H1 Q:=by
 have at':∀i,i < xs.length→xs[i]?=some (xs.getD i .non):=λi hi=>by
  rw[aae,aa0 hi];rfl
 exact Eo xs.length (λi=>xs.getD i .non) P hn hD (λi H hi hs=>⟨xs,_,hs.seq hS,at' i hi⟩)
  (λi H x H' hi hs hy=>⟨hy.1,aa3 ((hy.2 xs (hs.seq hS)).symm.trans (at' i hi))⟩) (λH hs=>⟨xs,hs.seq hS,aa4 _⟩) h0
  (λi ys H G K' hi hp hl hs hG hK=>step i _ ys H G K' (at' i hi) hp hl hs hG hK) done
theorem E6 {K:PySem.W.Frag} {a:Addr} {xs:List V} {fr:St} {tc:TT} {te:TE} {D:Addr} {H1:Hp} {Q:Hp→Prop} (P:Nat→List V→Prop) (hS:SqT K H1 a xs) (hn:xs.length < sizeLine) (hD:H1 D=none) (h0:P 0 [])
  (step:∀i x ys H (G:Hp→Prop) (K':V→Hp→Prop),xs[i]?=some x→P i ys→ys.length≤i→ah H1 H→(∀H3,ah H H3→P (i+1) ys→G H3)→(∀y H4,ah H H4→P (i+1) (ys++[y])→K' y H4)→tc ([some x]++fr) H λb H3=>if b=true then te ([some x]++fr) H3 K' else G H3)
  (done:∀ys H,P xs.length ys→ys.length≤xs.length→ah H1 H→H D=some (.lst ys)→Q H):LC 1 fr (cb 0) tc te (Itt K a) D H1 Q:=by
 have at':∀i,i < xs.length→xs[i]?=some (xs.getD i .non):=λi hi=>by
  rw[aae,aa0 hi];rfl
 exact Eo xs.length (λi=>xs.getD i .non) P hn hD (λi H hi hs=>⟨xs,_,hs.tup hS,at' i hi⟩)
  (λi H x H' hi hs hy=>⟨hy.1,aa3 ((hy.2 xs (hs.tup hS)).symm.trans (at' i hi))⟩) (λH hs=>⟨xs,hs.tup hS,aa4 _⟩) h0
  (λi ys H G K' hi hp hl hs hG hK=>step i _ ys H G K' (at' i hi) hp hl hs hG hK) done
theorem Jf {lo:Int} {n:Nat} {fr:St} {tc:TT} {te:TE} {D:Addr} {H1:Hp} {Q:Hp→Prop} (P:Nat→List V→Prop) (hn:n < sizeLine) (hD:H1 D=none) (h0:P 0 [])
  (step:∀(i:Nat) ys H (G:Hp→Prop) (K':V→Hp→Prop),i < n→P i ys→ys.length≤i→ah H1 H→(∀H3,ah H H3→P (i+1) ys→G H3)→(∀y H4,ah H H4→P (i+1) (ys++[y])→K' y H4)→tc ([some (.int (lo+i))]++fr) H λb H3=>if b=true then te ([some (.int (lo+i))]++fr) H3 K' else G H3)
  (done:∀ys H,P n ys→ys.length≤n→ah H1 H→H D=some (.lst ys)→Q H):LC 1 fr (cb 0) tc te (Itr lo n) D H1 Q:=
 Eo n (λi=>.int (lo+i)) P hn hD (λi H hi _=>hi) (λi H x H' hi hs hy=>hy) (λH hs=>aa4 _) h0 step done
section
variable {X:Cx} {x:Str} {pos:Pos}
theorem Qa {a:Addr} (hm:X.mg x=some (.ref a)) (hg:Gl X x:=by rfl) (hd:(x==("__debug__":Str))=false:=by decide+kernel):PE X (.Name x pos) (tC (.ref a)):=Nr hg hm rfl hd
theorem pe_gty {T:String} (hm:X.mg x=none) (hv:bootBuiltins x=some (.type T)) (hg:Gl X x:=by rfl) (hn:x≠"__name__":=by decide+kernel) (hd:(x==("__debug__":Str))=false:=by decide+kernel):PE X (.Name x pos) (tC (.ty T)):=Nx hg hm hv rfl hn hd
end
theorem d4:bootBuiltins "len"=some (.builtin "len"):=by decide+kernel
theorem b_sum:bootBuiltins "sum"=some (.builtin "sum"):=by decide+kernel
theorem fj:bootBuiltins "isinstance"=some (.builtin "isinstance"):=by decide+kernel
theorem t8:bootBuiltins "int"=some (.type "int"):=by decide+kernel
theorem Gz:bootBuiltins "str"=some (.type "str"):=by decide+kernel
theorem Kd:bootBuiltins "list"=some (.type "list"):=by decide+kernel
theorem dh:bootBuiltins "tuple"=some (.type "tuple"):=by decide+kernel
theorem vd:bootBuiltins "sorted"=some (.builtin "sorted"):=by decide+kernel
theorem str_eq {a b:Str}:a=b↔a.cps.toList=b.cps.toList:=by
 constructor
 ·intro e;rw[e]
 ·intro e;cases a;cases b
  exact congrArg Str.mk (Array.toList_inj.mp e)
theorem cxOf_K {CX:CXT} {P:Program} {w:World} {K:PySem.W.Frag} {mg:Str→Option Value} {base:Heap} {N:List Str} {qual:Str} {scope:Scope} {f:Addr} {cd:Value} {A:Around} {outer:List Env} {s:Shared} {H:Hp} {E:XK}:(ma CX P w K mg base N qual scope f cd A outer s H E).K=K:=rfl
theorem nox_K {X:Cx}:X.nox.K=X.K:=rfl
inductive yq:List Expr→List V→Prop where
 | nil:yq [] []
 | str {x:Str} {j:Nat} {pos:Pos} {es:List Expr} {vs:List V} (h:yq es vs):yq (.Constant (.str x) j pos::es) (.str x::vs)
 | int {i:Int} {j:Nat} {pos:Pos} {es:List Expr} {vs:List V} (h:yq es vs):yq (.Constant (.int i) j pos::es) (.int i::vs)
def tVals (vs:List V):TA:=λ_ H Q=>Q vs H
theorem Mr {X:Cx} {es:List Expr} {vs:List V} (h:yq es vs):PA X es (tVals vs):=by
 induction h with
 | nil=>exact Mo
 | str _ ih=>exact y8 Mg ih
 | int _ ih=>exact y8 Ll ih
def En (g:TG) (tb:TS) (D:Ends) (J:It) (σ:St) (H1:Hp):Prop:=∃W:Nat→Nat→St→Hp→Prop,(∃m,W 0 m σ H1)∧∀i m σ H,W i m σ H→
 (J.stop i H∧D.nx σ H)∨(J.go i H∧∃N:St→Hp→Prop,(∀σ' H',N σ' H'→∃m',m' < m∧W (i+1) m' σ' H')∧∀x H',J.yld i H x H'→g x σ H' λσ2 H2=>tb { D with nx:=N,ct:=N,bk:=D.nx } σ2 H2)
theorem Pb (wi:TI) (g:TG) (tb:TS) (D:Ends) (σ:St) (H:Hp):tFor wi g tb D σ H=wi σ H λJ H1=>En g tb D J σ H1:=rfl
section
variable {K:PySem.W.Frag} {a:Addr} {xs:List V} {g:TG} {tb:TS} {D:Ends} {σ:St} {H:Hp}
theorem gq (Pv:Nat→St→Hp→Prop) (h0:Pv 0 σ H) (hl:∀i σ H,i≤xs.length→Pv i σ H→SqL K H a xs)
  (hs:∀i x σ H,xs[i]?=some x→Pv i σ H→g x σ H λσ2 H2=>tb { D with nx:=Pv (i+1),ct:=Pv (i+1),bk:=D.nx } σ2 H2) (hd:∀σ H,Pv xs.length σ H→D.nx σ H):En g tb D (Itl K a) σ H:=Kz Pv h0 hl hs hd
theorem gu (Pv:Nat→St→Hp→Prop) (h0:Pv 0 σ H) (hl:∀i σ H,i≤xs.length→Pv i σ H→SqT K H a xs)
  (hs:∀i x σ H,xs[i]?=some x→Pv i σ H→g x σ H λσ2 H2=>tb { D with nx:=Pv (i+1),ct:=Pv (i+1),bk:=D.nx } σ2 H2) (hd:∀σ H,Pv xs.length σ H→D.nx σ H):En g tb D (Itt K a) σ H:=N8 Pv h0 hl hs hd
theorem gc {lo:Int} {n:Nat} (Pv:Nat→St→Hp→Prop) (h0:Pv 0 σ H)
  (hs:∀i σ H,i < n→Pv i σ H→g (.int (lo+i)) σ H λσ2 H2=>tb { D with nx:=Pv (i+1),ct:=Pv (i+1),bk:=D.nx } σ2 H2) (hd:∀σ H,Pv n σ H→D.nx σ H):En g tb D (Itr lo n) σ H:=Ik Pv h0 hs hd
end
end L2
namespace L2
open PySem PySem.Spec PyProof.Rows Builtin Builtin.Str
def ModD (w:World) (K:PySem.W.Frag) (a:Addr) (kvs:List (Key×V)):Prop:=
 (a==sysModules)=false∧∀(P:Program) (h:Heap),K.In h→∃vs,KV kvs vs∧h.DictOf (ay P w) a vs
abbrev Gv:=Int×Str×Tok×Int×Tok
noncomputable def siE (e:Gv):DictEntry:=⟨e.1,.str e.2.1 e.2.2.1,.int e.2.2.2.1 e.2.2.2.2⟩
theorem Bf (P:Program) (w:World):∀es:List Gv,Pairs (ay P w) (es.map siE) (es.map λe=>((Sum.inr e.2.1:Key),Value.int e.2.2.2.1 e.2.2.2.2))
 | []=>.nil
 | e::r=>.cons (kg P w e.2.1 e.2.2.1) rfl (Bf P w r)
theorem si_kv:∀es:List Gv,KV (es.map λe=>((Sum.inr e.2.1:Key),V.int e.2.2.2.1)) (es.map λe=>((Sum.inr e.2.1:Key),Value.int e.2.2.2.1 e.2.2.2.2))
 | []=>.nil
 | e::r=>.cons ⟨rfl,⟨_,rfl⟩⟩ (si_kv r)
theorem N0 {w:World} {K:PySem.W.Frag} {a:Addr} {ep:Nat} (es:List Gv) (hl:K.lookup a=some ⟨.type "dict",none,.dict (es.map siE).toArray ep,#[]⟩) (ha:(a==sysModules)=false)
  (hh:∀e∈es,e.1=hashStr w e.2.1) (nd:(es.map λe=>(Sum.inr e.2.1:Key)).Nodup):ModD w K a (es.map λe=>(Sum.inr e.2.1,V.int e.2.2.2.1)):=by
 refine ⟨ha,λP h hk=>⟨_,si_kv es,_,_,ep,hk a _ hl,⟨rfl,rfl,rfl⟩,rfl,λe he=>?_,by simpa using Bf P w es,?_⟩⟩
 ·have he':e∈es.map siE:=List.mem_toArray.mp he;obtain ⟨r,hr,rfl⟩:=List.mem_map.mp he';exact ⟨Sum.inr r.2.1,kg P w r.2.1 r.2.2.1,hh r hr⟩
 ·rw[ac3];exact nd
section
variable {X:Cx} {a:Addr} {kvs:List (Key×V)}
def J5 (kvs:List (Key×V)) (ty tx:TE):TE:=λσ H Q=>ty σ H λy H2=>tx σ H2 λz H3=>∃k,y=kV k∧Q ((cu kvs k).getD z) H3
theorem Js {o e f:Expr} {apos cpos:Pos} {ty tx:TE} (ho:PE X o (tC (.ref a))) (md:ModD X.w X.K a kvs) (he:PE X e ty) (hf:PE X f tx) (m:M2 X o "get" apos e f cpos):PE X (.Call (.Attribute o "get" apos) [e,f] [] cpos) (J5 kvs ty tx):=by
 intro pins s σ H Q I h;refine wpAny_Call_method m.base m.few m.line PySem.F.plainAttrs_dict PySem.F.slot_dict_get PySem.F.type_dict_get (thn (ho pins s σ H (λx H1=>x=.ref a∧H1=H) I ⟨rfl,rfl⟩) λu s1 ⟨x,H1,I1,rx,ex,eH⟩=>?_);subst ex eH;obtain rfl:u=Value.ref a:=rx;obtain ⟨vs,rel,dd⟩:=md.2 X.prog _ I1.kIn;refine ⟨dd.typeIs,λb q=>?_,?_⟩
 ·cases q
  obtain ⟨ob,_,_,h1,h2,_⟩:=dd;exact ⟨ob,h1,h2.2.1⟩
 rw[m.trees];refine Calls.callWith_builtin rfl (Calls.evalArgs_plain (Calls.spliced_cons (thn (he pins s1 σ H1 _ I1 h) λiv s2 ⟨y,H2,I2,ry,q2⟩=>
  Calls.spliced_cons (thn (hf pins s2 σ H2 _ I2 q2) λfv s3 ⟨z,H3,I3,rz,k,ek,q3⟩=>Calls.spliced_nil ?_))))
 subst ek;obtain ⟨vs',rel',dd'⟩:=md.2 X.prog _ I3.kIn;refine call_meetsIn PySem.F.slot_dict_get dd'.typeIs PySem.F.entry_dict_get (PySem.F.args_dict_get_3 _ _ _) (meets_dict_get_default (ay X.prog X.w) a (jo ry) md.1 fv) ⟨_,dd'.mapOf,⟨_,H3,I3.tok _,?_,q3⟩⟩;exact (rel'.val k).getD rz
theorem vz (hc:X.calm=true):jn X (.builtin "sum") (λxs H Q=>∃p ns,xs=[.ref p]∧SqL X.K H p (aei V.int ns)∧Q (.int ns.sum) H):=by
 intro pins s σ H xs us Q I r h;obtain ⟨p,ns,rfl,hq,q⟩:=h;obtain ⟨u,rfl,rx⟩:=vals1 r;cases rx
 obtain ⟨its,rv,pl,hz⟩:=I.list hq;have hi:IntsAre its ns:=L2.intsAre_of rv;obtain ⟨ys,hy⟩:=hi.allInts.items;refine sum_intListG (I.ok.hd hc) (by rw[←hy];exact pl.isList) λh' tk t' hk=>⟨.int ns.sum,H,I.kept hk,⟨t',?_⟩,q⟩;have e:ys.toList.map (·.1)=ns:=by
  rw[←nums_intItems,←hy];exact hi.numsOf
 rw[preSum_eq,abe (by simp),e]
noncomputable def Gw:V→Str
 | .str z=>z
 | .int i=>(toString i:String)
 | _=>Str.empty
def wordV:V→Prop
 | .str _=>True
 | .int i=>i.natAbs.log2 < 1920
 | _=>False
theorem Ag:jn X (.type "str") (λxs H Q=>∃x,xs=[x]∧wordV x∧Q (.str (Gw x)) H):=by
 intro pins s σ H xs us Q I r h;obtain ⟨x,rfl,hw,q⟩:=h;obtain ⟨u,rfl,rx⟩:=vals1 r;cases x with
 | str z=>obtain ⟨t,rfl⟩:=rx;exact PySem.P.str_of_str ⟨.str z,H,I,⟨t,rfl⟩,q⟩
 | int i=>obtain ⟨t,rfl⟩:=rx;exact PySem.P.str_of_int hw ⟨.str _,H,I.tok _,⟨_,rfl⟩,q⟩
 | _=>exact hw.elim
end
end L2
namespace L2
open PySem PySem.Spec PyProof.Rows
section
variable {X:Cx} (K:PySem.W.Frag) (hK:X.K=K)
include hK
theorem uy:IxR X (rIxL K):=by subst hK;exact F0
theorem P6:IxR X (rIxT K):=by subst hK;exact Kl
theorem mi:OpR X (compareOp .In) (rIn K false):=by subst hK;exact wz
end
def tMid (t u:TS):TS:=λD σ H=>∃M:St→Hp→Prop,t { D with nx:=M } σ H∧∀σ' H',M σ' H'→u D σ' H'
theorem dy {t u:TS} {D:Ends} {σ:St} {H:Hp} (M:St→Hp→Prop) (h1:t { D with nx:=M } σ H) (h2:∀σ' H',M σ' H'→u D σ' H'):tMid t u D σ H:=⟨M,h1,h2⟩
section
variable {X:Cx} {st:Stmt} {rest:List Stmt} {t u:TS}
theorem Oz (h1:PS X st t) (h2:PSs X rest u):PSs X (st::rest) (tMid t u):=by
 intro pins s σ H D I h;obtain ⟨M,h,hM⟩:=h;refine wpAny_execs_cons (thn (h1 pins s σ H { D with nx:=M } I h) λf s1 q=>?_);cases f with
 | next=>
  obtain ⟨σ',H',I',q⟩:=q;exact h2 pins s1 σ' H' D I' (hM σ' H' q)
 | ret v=>exact q
 | brk=>exact q
 | cont=>exact q
end
theorem O1 {K:PySem.W.Frag} {z:Str} {H:Hp}:tyV K "str" (.str z) H=True:=eq_true rfl
theorem ax {K:PySem.W.Frag} {a:Addr} {xs:List V} {H:Hp} (h:H a=some (.lst xs)):tyV K "list" (.ref a) H:=.inl ⟨rfl,xs,SqL.of h⟩
theorem au {K:PySem.W.Frag} {H:Hp} {t:Addr} {xs:List V} {i:Int} {v:V} {Q:VK} (h:H t=some (.tup xs)) (hv:atI xs i=some v) (q:Q v H):rIxT K (.ref t) (.int i) H Q:=⟨t,xs,i,v,rfl,rfl,SqT.of h,hv,q⟩
theorem aw {K:PySem.W.Frag} {H:Hp} {t:Addr} {xs:List V} {i:Int} {v:V} {Q:VK} (h:H t=some (.lst xs)) (hv:atI xs i=some v) (q:Q v H):rIxL K (.ref t) (.int i) H Q:=⟨t,xs,i,v,rfl,rfl,SqL.of h,hv,q⟩
theorem Ox {H:Hp} {a b:Addr} {xs ys:List V} {Q:VK} (h1:H a=some (.lst xs)) (h2:H b=some (.lst ys)) (hz:xs.length+ys.length≤sizeLine) (q:∀p,H p=none→Q (.ref p) (upd H p (.lst (xs++ys)))):rCat (.ref a) (.ref b) H Q:=⟨a,b,xs,ys,rfl,rfl,h1,h2,hz,q⟩
theorem Qj {H:Hp} {a:Addr} {x:V} {k:Int} {Q:VK} (h1:H a=some (.lst [x])) (h0:0≤k) (hk:k≤1000000) (q:∀p,H p=none→Q (.ref p) (upd H p (.lst (aak k.toNat x)))):rRep (.ref a) (.int k) H Q:=by
 have sz:=sizeLine_eq;refine ⟨a,k,[x],rfl,rfl,h1,by omega,by omega,by show 1*k.toNat≤sizeLine;omega,λp hp=>?_⟩;have e:(aak k.toNat [x]).flatten=aak k.toNat x:=by
  induction k.toNat with
  | zero=>rfl
  | succ n ih=>rw[ab5,abx,ih];rfl
 rw[e];exact q p hp
theorem bb {K:PySem.W.Frag} {H:Hp} {l:Addr} {xs:List V} {y:V} {Q:VK} (h:H l=some (.lst xs)) (hz:xs.length < sizeLine) (q:Q .non (upd H l (.lst (xs++[y])))):tyV K "list" (.ref l) H∧mq (.ref l) [y] H Q:=
 ⟨ax h,l,xs,y,rfl,rfl,h,hz,q⟩
end L2
namespace HT
open PySem PySem.Spec PyProof.Rows L2
section
variable {prog:Program} {w:World} {A:Around} {E:Value→Shared→Prop} {s:Shared}
theorem Kh {t b:Addr} {vs ws:List Value} {Q:Value→Shared→Prop} (ht:IsTup s.heap t vs.toArray) (hb:IsTup s.heap b ws.toArray) (hv:vs=[]) (h1:Q (.ref b) s):wpAny (model prog w) A (binaryOp .Add (.ref t) (.ref b)) Q E s:=by
 obtain ⟨⟨cls,dd,data,sl⟩,ho,hc,n,hd⟩:=id ht;obtain ⟨⟨cls2,dd2,data2,sl2⟩,ho2,hc2,n2,hd2⟩:=id hb;simp only at hc hd hc2 hd2;subst hc hd hc2 hd2;exact concat_meets ⟨_,ho,rfl⟩ ⟨_,ho2,rfl⟩ noFill_tuple_add seq_tuple_add PySem.F.slot_tuple_add PySem.F.entry_tuple_add (PySem.F.args_tuple_add_2 _ _)
  (tuple_addW0 t b vs.toArray ws.toArray n n2 dd dd2 sl sl2 (by simp[hv])) ⟨ho,ho2,h1⟩
theorem lb {t sl:Addr} {items:Array Value} {vl vu:Value} {lo hi:Option Int} {Q:Value→Shared→Prop} (ht:IsTup s.heap t items) (hs:s.heap.IsSliceOf sl vl vu .none) (pl:IsPart vl lo) (pu:IsPart vu hi)
  (hw:sIx items.size 0 lo=0∧sIx items.size items.size hi=items.size) (h:Q (.ref t) s) (hsz:items.size≤sizeLine):wpAny (model prog w) A (getItem (.ref t) (.ref sl)) Q E s:=by
 obtain ⟨os,hos,hcs,hds⟩:=id hs;have hTs:s.TypeIs (.ref sl) "slice":=⟨os,hos,hcs⟩;unfold getItem;try with_reducible refine wpAny_holding ?_
 first | refine wpAny_bind (wpAny_pure ?_) | skip
 refine wpAny_bind (wpAny_sequenceKey ht.typeIs (by decide) ?_);refine wpAny_bind (wpAny_callSpecial?_slot (name:=Str.ofString "__getitem__") ht.typeIs PyProof.Rows.slot_tuple_getitem
  (wpAny_call_entry PyProof.Rows.slot_tuple_getitem ht.typeIs entry_tuple_getitem ?_ (args_tuple_getitem _ _)))
 show wpAny _ _ (Builtin.Tuple.tupleItemsOf (.ref t) >>=_) _ _ s
 refine wpAny_bind (tupleItemsOf_ ht ?_);refine wpAny_bind (wpAny_typeOf hTs ?_);rw[if_pos (by decide)];refine wpAny_bind (iw hs pl pu ?_);have hyes:((((sIx items.size 0 lo:Nat):Int)==0&&(1:Int)==1&&(sIx items.size items.size hi - sIx items.size 0 lo)==items.size)=true):=by
  rw[hw.1,hw.2];simp
 show wpAny _ _ (if (((sIx items.size 0 lo:Nat):Int)==0&&(1:Int)==1&&(sIx items.size items.size hi - sIx items.size 0 lo)==items.size)=true then _ else _) _ _ s
 rw[if_pos hyes];refine wpAny_bind ?_;show wpAny _ _ (typeOf (.ref t) >>=λv=>pure (v==.type "tuple")) _ _ s
 refine wpAny_bind (wpAny_typeOf ht.typeIs (wpAny_pure ?_));rw[if_pos (by decide)];refine wpAny_bind (wpAny_rule ?_);first
  | exact wpAny_bind (wpAny_pure (wpAny_pure ⟨_,rfl,wpAny_pure h⟩))
  | exact wpAny_pure ⟨_,rfl,wpAny_pure h⟩
  | exact wpAny_bind (wpAny_pure ⟨_,rfl,wpAny_pure h⟩)
end
end HT
namespace L2
open PySem PySem.Spec PyProof.Rows
section
variable {X:Cx}
def rCatU:R2:=λx y H Q=>∃a b xs ys,x=.ref a∧y=.ref b∧H a=some (.tup xs)∧H b=some (.tup ys)∧xs.length+ys.length≤sizeLine∧∀p H',ah H H'→H' p=some (.tup (xs++ys))→Q (.ref p) H'
theorem Gx:OpR X (binaryOp .Add) rCatU:=by
 intro pins s σ H x y v u Q I rx ry h;obtain ⟨a,b,xs,ys,rfl,rfl,ha,hb,hz,q⟩:=h;by_cases hx:xs=[]
 ·subst hx;cases rx
  cases ry
  obtain ⟨its,r1,p1,_⟩:=I.tuple (SqT.of ha);obtain ⟨its2,r2,p2,_⟩:=I.tuple (SqT.of hb);exact HT.Kh p1 p2 (r1.su.mpr rfl) ⟨.ref b,H,I,rfl,q b H (ah.refl H) hb⟩
 ·refine Nv pins s σ H _ _ v u Q I rx ry ⟨a,b,xs,ys,rfl,rfl,SqT.of ha,SqT.of hb,hx,hz,λe=>?_,λ_ p hp=>q p _ (λc o h=>by rw[ag (af h hp)];exact h) ae⟩;subst e;exact q a H (ah.refl H) (by rw[ab3];exact ha)
theorem Co {H:Hp} {a b:Addr} {xs ys:List V} {Q:VK} (ha:H a=some (.tup xs)) (hb:H b=some (.tup ys)) (hz:xs.length+ys.length≤sizeLine) (q:∀p H',ah H H'→H' p=some (.tup (xs++ys))→Q (.ref p) H'):rCatU (.ref a) (.ref b) H Q:=⟨a,b,xs,ys,rfl,rfl,ha,hb,hz,q⟩
def rSlU:V→Option Int→Option Int→Hp→VK→Prop:=λx lo hi H Q=>∃a xs,x=.ref a∧H a=some (.tup xs)∧∀p H',ah H H'→H' p=some (.tup (ib xs lo hi))→Q (.ref p) H'
theorem Ji {xs:List V} {lo hi:Option Int} (h:HT.sIx xs.length 0 lo=0∧HT.sIx xs.length xs.length hi=xs.length):ib xs lo hi=xs:=by
 unfold ib;rw[h.1,h.2,aed,ace,abj]
theorem yv:SlR X rSlU:=by
 intro pins s σ H x v vl vu lo hi sl Q I rx hs pl pu h;obtain ⟨a,xs,rfl,ha,q⟩:=h;by_cases hw:HT.sIx xs.length 0 lo=0∧HT.sIx xs.length xs.length hi=xs.length
 ·cases rx
  obtain ⟨its,r,ht,hz⟩:=I.tuple (SqT.of ha);have hlen:its.toArray.size=xs.length:=by rw[aa5];exact r.length.symm
  exact ⟨"tuple",_,PyProof.Rows.slot_tuple_getitem.lookup,ht.typeIs,HT.lb ht hs pl pu (by rw[hlen];exact hw) ⟨.ref a,H,I,rfl,q a H (ah.refl H) (by rw[Ji hw];exact ha)⟩ (by rw[hlen];exact hz)⟩
 ·exact sl_tup pins s σ H _ v vl vu lo hi sl Q I rx hs pl pu ⟨a,xs,rfl,SqT.of ha,hw,λp hp=>q p _ (λc o h=>by rw[ag (af h hp)];exact h) ae⟩
theorem Qw {H:Hp} {a:Addr} {xs:List V} {lo hi:Option Int} {Q:VK} (ha:H a=some (.tup xs)) (q:∀p H',ah H H'→H' p=some (.tup (ib xs lo hi))→Q (.ref p) H'):rSlU (.ref a) lo hi H Q:=⟨a,xs,rfl,ha,q⟩
theorem yl (k:Key):il (kV k)=true:=by cases k <;> rfl
theorem eqV_kV (a b:Key):eqV (kV a) (kV b)=decide (a=b):=by
 cases a <;> cases b <;> simp[eqV,kV] <;> exact Bool.beq_eq_decide_eq _ _
theorem yb {A:Around} {s:Shared} {as bs:List Key} {us ws:List Value} (r1:Vals (as.map kV) us) (r2:Vals (bs.map kV) ws) (j:Nat) (h1:j < us.toArray.size) (h2:j < ws.toArray.size):
  SeqAt.EqAt A s us.toArray[j] ws.toArray[j] (decide (as[j]?=bs[j]?)):=by
 have l1:=r1.length;have l2:=r2.length;rw[aa1] at l1 l2;have j1:j < as.length:=by rw[l1];simpa using h1
 have j2:j < bs.length:=by rw[l2];simpa using h2
 obtain ⟨u,hu,ru⟩:=r1.get (i:=j) (x:=kV as[j]) (by rw[aaa,aa0 j1];rfl);obtain ⟨w,hw,rw'⟩:=r2.get (i:=j) (x:=kV bs[j]) (by rw[aaa,aa0 j2];rfl);have e1:us.toArray[j]=u:=by
  have:us[j]'(by simpa using h1)=u:=by rw[aa0 (by simpa using h1)] at hu;exact aa3 hu
  simpa using this
 have e2:ws.toArray[j]=w:=by
  have:ws[j]'(by simpa using h2)=w:=by rw[aa0 (by simpa using h2)] at hw;exact aa3 hw
  simpa using this
 rw[e1,e2,aa0 j1,aa0 j2];have e3:decide (some as[j]=some bs[j])=eqV (kV as[j]) (kV bs[j]):=by
  rw[eqV_kV];apply decide_eq_decide.mpr
  exact ⟨λh=>aa3 h,λh=>by rw[h]⟩
 rw[e3];exact Ko ru rw' (yl _) (yl _)
end
section
variable {X:Cx} {k:Nat} {ps:List Str} {sp:Sp} {x:Str} {p pos:Pos} {e:Expr} {es:List Expr} {t:TA}
def FnV (P:Program) (w:World) (K:PySem.W.Frag) (mg:Str→Option Value) (base:Heap) (k:Nat) (ps:List Str) (sp:Sp) (v:V):Prop:=
 ∃(f:Addr) (fd:FuncData),v=.ref f∧l9 P w K mg base CX0 k f fd ps sp∧Binds K fd ps []∧PySem.W.keepIn K (.ref f)=true
def tCallV (P:Program) (w:World) (K:PySem.W.Frag) (mg:Str→Option Value) (base:Heap) (k:Nat) (ps:List Str) (i:Nat) (t:TA):TE:=λσ H Q=>∃v sp,σ[i]?=some (some v)∧FnV P w K mg base k ps sp v∧t σ H λvs H1=>sp vs H1 Q E0
end
noncomputable def Itv (K:PySem.W.Frag) (a:Addr) (n:Nat):It:=
 ⟨λi H=>i < n∧∃xs,SqL K H a xs∧xs.length=n,λi H x H'=>H'=H∧∀xs,SqL K H a xs→xs[n - 1 - i]?=some x,λi H=>i=n⟩
theorem Nb {P:Program} {w:World} {K:PySem.W.Frag} {tg:Expr} (a it:Addr) (n:Nat):Turn P w K tg (Itv K a n) [it] it (λi h=>i≤n∧h.IsRevIter it a ((n:Int) - 1 - (i:Int))) where
 mem:=by simp
 obj:=λi h st b hb=>by
  have e:b=it:=by simpa using hb
  subst e;obtain ⟨_,o,e,c,d⟩:=st;exact ⟨o,e,λv z=>by rw[d] at z;cases z⟩
 keep:=λi h h' st k=>⟨st.1,st.2.at λo e=>k it (by simp) o e⟩
 item:=by
  intro X hP hw hK hc i pins s σ H E I hf st hg;subst hP hw hK;obtain ⟨hi,xs,hq,hn⟩:=hg;have hx:xs[n - 1 - i]?=some (xs[n - 1 - i]'(by omega)):=aa0 (by omega);obtain ⟨its,rv,p,hz⟩:=I.list hq;obtain ⟨u,hu,ru⟩:=rv.get hx;obtain ⟨f0,f1,f2,f3,f4,f5⟩:=hf it (by simp);have e:(n:Int) - 1 - (i:Int)=((n - 1 - i:Nat):Int):=by omega
  have st2:=st.2;rw[e] at st2;refine wpAny_pyNext_rev_item st2 p.isList (x:=u) (by simpa using hu) λh' st' sb=>?_;have e2:((n - 1 - i:Nat):Int) - 1=(n:Int) - 1 - ((i+1:Nat):Int):=by omega
  rw[e2] at st';have I1:Inv X pins σ H { s with heap:=h' }:=I.turned (t':=s.toks) (λb o hb e=>(sb.2 b hb).trans e) f0 f1 f3 f4 f5;obtain ⟨o,e,c,d⟩:=id st';exact ⟨u,rfl,Cb (s:={ s with heap:=h' }) e c d (by decide) ⟨_,H,I1,ru,⟨rfl,λys hy=>by rw[I.tm hy hq];exact hx⟩,⟨hi,st'⟩,λb hb=>(hf b hb).1⟩⟩
 done:=by
  intro X hP hw hK hc i pins s σ H E I hf st hg;subst hP hw hK;obtain ⟨f0,f1,f2,f3,f4,f5⟩:=hf it (by simp);have hg:i=n:=hg;subst hg;have e:(i:Int) - 1 - (i:Int)=-1:=by omega
  have st2:=st.2;rw[e] at st2;exact wpAny_pyNext_rev_end (I.ok.hd hc) st2 λh' eb=>⟨rfl,I.turned (t':=s.toks) (λb o hb e=>eb b o hb e) f0 f1 f3 f4 f5⟩
 self:=λ_ _ _ _ _ st h=>wpAny_pyIter_revIter st.2 h
def iRev (K:PySem.W.Frag) (ta:TA):TI:=λσ H R=>ta σ H λvs H1=>∃a xs,vs=[.ref a]∧SqL K H1 a xs∧R (Itv K a xs.length) H1
theorem uj:bootBuiltins "reversed"=some (.type "reversed"):=by decide+kernel
section
variable {X:Cx} {tg:Expr}
theorem pi_rev {a:Expr} {ta:TA} {p pos:Pos} (hg:Gl X "reversed") (hm:X.mg "reversed"=none) (ha:PA X [a] ta) (hs:starEach [a] X.env=[(false,eval a X.env)]:=by rfl):PI X tg (.Call (.Name "reversed" p) [a] [] pos) (iRev X.K ta):=by
 intro pins s σ H R I h;refine Call_ (gz I hg hm uj (PyProof.Rows.callWith_type1 (thn (ha pos pins s σ H _ I h) λus s1 ⟨vs,H1,I1,r1,q1⟩=>?_) hs rfl));obtain ⟨l,xs,e,hq,q⟩:=q1;subst e;cases r1 with
 | cons r rr=>
  cases rr
  cases (show _=Value.ref l from r)
  obtain ⟨its,rv,pl,hz⟩:=I1.list hq;refine call_reversed_list pl.isList ?_;have hlen:((its.toArray.size:Nat):Int) - 1=(xs.length:Int) - 1 - ((0:Nat):Int):=by
   rw[aa5,←rv.length];omega
  have st:Heap.IsRevIter (s1.heap.push (revObj l ((its.toArray.size:Int) - 1))) s1.heap.objs.size l ((xs.length:Int) - 1 - ((0:Nat):Int)):=by
   rw[←hlen];exact ⟨_,Heap.get?_push_size _ rfl,rfl,rfl⟩
  refine wpAny_pyIter_revIter st ?_;refine ⟨s1.heap.objs.size,[s1.heap.objs.size],_,_,H1,rfl,I1.kept (t':=s1.toks) λb o e=>Heap.get?_push_of_some _ e,Nb l _ xs.length,⟨aa7 _,st⟩,λb hb=>?_,q⟩;have e:b=s1.heap.objs.size:=by simpa using hb
  subst e;exact I1.wc (aa4 _) (I1.hok.fresh (aa4 _))
end
theorem M3 {K:PySem.W.Frag} {a:Addr} {xs:List V} {g:TG} {tb:TS} {D:Ends} {σ:St} {H:Hp} (Pv:Nat→St→Hp→Prop) (h0:Pv 0 σ H) (hl:∀i σ H,i≤xs.length→Pv i σ H→SqL K H a xs)
  (hs:∀i x σ H,i < xs.length→xs[xs.length - 1 - i]?=some x→Pv i σ H→g x σ H λσ2 H2=>tb { D with nx:=Pv (i+1),ct:=Pv (i+1),bk:=D.nx } σ2 H2) (hd:∀σ H,Pv xs.length σ H→D.nx σ H):En g tb D (Itv K a xs.length) σ H:=by
 refine ⟨λi m σ H=>m=xs.length - i∧i≤xs.length∧Pv i σ H,⟨xs.length,by simp,aa7 _,h0⟩,?_⟩;rintro i m σ H ⟨rfl,hi,p⟩;have q:=hl i σ H hi p;by_cases hlt:i < xs.length
 ·refine .inr ⟨⟨hlt,xs,q,rfl⟩,Pv (i+1),λσ' H' p'=>⟨xs.length - (i+1),by omega,rfl,hlt,p'⟩,λx H' y=>?_⟩;obtain ⟨e,y⟩:=y;subst e;exact hs i x σ _ hlt (y xs q) p
 ·have e:i=xs.length:=by omega
  subst e;exact .inl ⟨rfl,hd σ H p⟩
section
variable {CX:CXT} {P:Program} {w:World} {K:PySem.W.Frag} {mg:Str→Option Value} {base:Heap} {N:List Str} {qual:Str} {scope:Scope} {f:Addr} {cd:Value} {A:Around} {outer:List Env} {s:Shared} {H:Hp} {E:XK}
theorem cxOf_P:(ma CX P w K mg base N qual scope f cd A outer s H E).prog=P:=rfl
theorem cxOf_w:(ma CX P w K mg base N qual scope f cd A outer s H E).w=w:=rfl
theorem Rc:(ma CX P w K mg base N qual scope f cd A outer s H E).mg=mg:=rfl
theorem cxOf_b:(ma CX P w K mg base N qual scope f cd A outer s H E).base=base:=rfl
end
theorem qf {K:PySem.W.Frag} {H:Hp} {l:Addr} {xs:List V} {y:V} {Q:VK} (h:H l=some (.lst (xs++[y]))) (q:Q y (upd H l (.lst xs))):tyV K "list" (.ref l) H∧rPop (.ref l) [] H Q:=
 ⟨ax h,l,xs++[y],y,rfl,rfl,h,by rw[aa2,aac,acw,aad (aa4 _),acx];rfl,by rw[aej];exact q⟩
end L2
namespace L2.Srt
open PySem PySem.W PyProof.Rows
section
variable {cmp:Nat→Nat→(Bool→Shared→Prop)→Shared→Prop} {N:Nat} {r:Nat→Int} {s:Shared}
def Cmp (cmp:Nat→Nat→(Bool→Shared→Prop)→Shared→Prop) (N:Nat) (r:Nat→Int) (s:Shared):Prop:=∀i j C,i < N→j < N→C (decide (r i < r j)) s→cmp i j C s
def b9 (N:Nat) (p:Array Nat):Prop:=p.toList.Perm (aaq N)
theorem b9.size {p:Array Nat} (h:b9 N p):p.size=N:=by
 have:=h.length_eq;rw[ac0,aby] at this;exact this
theorem b9.lt {p:Array Nat} (h:b9 N p) {k:Nat} (hk:k < N):p.getD k 0 < N:=by
 have hs:=h.size;have e:p.getD k 0=p[k]'(by omega):=by simp[Array.getD,hs,hk]
 rw[e];have:p[k]'(by omega)∈p.toList:=by simp
 exact List.mem_range.mp (h.mem_iff.mp this)
theorem b9.of {p q:Array Nat} (h:b9 N p) (e:q.Perm p):b9 N q:=(Array.perm_iff_toList_perm.mp e).trans h
noncomputable def R (r:Nat→Int) (p:Array Nat) (i:Nat):Int:=r (p.getD i 0)
theorem ml {p q:Array Nat} {i j:Nat} (h:p[i]?=q[j]?):R r p i=R r q j:=by
 unfold R;rw[abq,abq,h]
def Inc (r:Nat→Int) (p:Array Nat) (k:Nat):Prop:=∀i j,i≤j→j < k→R r p i≤R r p j
theorem gf {p:Array Nat} {i j:Nat} (hj:j≤p.size) (k:Nat):R r (kas_rev p i j) k=if i≤k∧k < j then R r p (i+j - 1 - k) else R r p k:=by
 have e:=getElem?_mirror_all (i:=i) hj k;by_cases h1:i≤k∧k < j
 ·rw[if_pos h1] at e ⊢;exact ml e
 ·rw[if_neg h1] at e ⊢;exact ml e
theorem j7 {p:Array Nat} {i j:Nat} (h:b9 N p):b9 N (kas_rev p i j):=h.of (mirror_perm _ _ _ _)
theorem Ct {p:Array Nat} {src d:Nat} (hs:src < p.size) (hd:d≤src) (k:Nat):
  R r (bubble p src d) k=if k=src - d then R r p src else if src - d < k∧k≤src then R r p (k - 1) else R r p k:=by
 have e:=getElem?_bubble hs d hd k;by_cases h1:k=src - d
 ·rw[if_pos h1] at e ⊢;exact ml e
 ·rw[if_neg h1] at e ⊢;by_cases h2:src - d < k∧k≤src
  ·rw[if_pos h2] at e ⊢;exact ml e
  ·rw[if_neg h2] at e ⊢;exact ml e
theorem vi (hc:Cmp cmp N r s) {p:Array Nat} (hp:b9 N p) {k:Nat} (hk:k < N) (hi:Inc r p k) {Q:Nat→Shared→Prop}:∀(f l u:Nat),l≤u→u≤k→u - l≤f→(∀i,i < l→R r p i≤R r p k)→(∀i,u≤i→i < k→R r p k < R r p i)→
  (∀m,m≤k→(∀i,i < m→R r p i≤R r p k)→(∀i,m≤i→i < k→R r p k < R r p i)→Q m s)→(kas_place p k f l u).kasWp cmp Q s
 | 0,l,u,hlu,huk,hf,a,b,q=>q l (by omega) a λi h1 h2=>b i (by omega) h2
 | f+1,l,u,hlu,huk,hf,a,b,q=>by
  show KasT.kasWp cmp (if l≥u then _ else _) Q s
  by_cases c:l≥u
  ·rw[if_pos c];exact q l (by omega) a λi h1 h2=>b i (by omega) h2
  ·rw[if_neg c];show cmp _ _ _ s
   refine hc _ _ _ (hp.lt hk) (hp.lt (by omega)) ?_;have e0:R r p k=r (p.getD k 0):=rfl;have e1:R r p ((l+u) / 2)=r (p.getD ((l+u) / 2) 0):=rfl;by_cases d:r (p.getD k 0) < r (p.getD ((l+u) / 2) 0)
   ·rw[decide_eq_true d];show KasT.kasWp cmp (if true=true then _ else _) Q s
    rw[if_pos rfl];refine vi hc hp hk hi f l ((l+u) / 2) (by omega) (by omega) (by omega) a (λi h1 h2=>?_) q;have:=hi ((l+u) / 2) i h1 h2;omega
   ·rw[decide_eq_false d];show KasT.kasWp cmp (if false=true then _ else _) Q s
    rw[if_neg (by decide)];refine vi hc hp hk hi f ((l+u) / 2+1) u (by omega) huk (by omega) (λi h1=>?_) b q;have:=hi i ((l+u) / 2) (by omega) (by omega);omega
end
noncomputable def Ix (p:Array Nat) (i:Nat):Int:=R (λx=>(x:Int)) p i
def LS (r:Nat→Int) (p:Array Nat) (i j:Nat):Prop:=R r p i < R r p j∨(R r p i=R r p j∧Ix p i < Ix p j)
def qa (r:Nat→Int) (p:Array Nat) (k:Nat):Prop:=∀i j,i < j→j < k→LS r p i j
def E5 (r:Nat→Int) (p:Array Nat) (k:Nat):Prop:=∀i j,i < j→j < k→LS r p j i
def Fr (p:Array Nat) (n N:Nat):Prop:=(∀i,i < n→Ix p i < n)∧∀i,n≤i→i < N→Ix p i=i
section
variable {cmp:Nat→Nat→(Bool→Shared→Prop)→Shared→Prop} {N:Nat} {r:Nat→Int} {s:Shared}
theorem LS.trans {p:Array Nat} {i j k:Nat} (a:LS r p i j) (b:LS r p j k):LS r p i k:=by
 unfold LS at*;omega
theorem LS.le {p:Array Nat} {i j:Nat} (a:LS r p i j):R r p i≤R r p j:=by
 unfold LS at a;omega
theorem LS.to {p q:Array Nat} {i j i' j':Nat} (a:LS r p i j) (e1:R r q i'=R r p i) (e2:R r q j'=R r p j) (e3:Ix q i'=Ix p i) (e4:Ix q j'=Ix p j):LS r q i' j':=by
 unfold LS at*;rw[e1,e2,e3,e4];exact a
theorem qa.inc {p:Array Nat} {k:Nat} (h:qa r p k):Inc r p k:=λi j hij hj=>by
 by_cases e:i=j
 ·rw[e];exact abr _
 ·exact (h i j (by omega) hj).le
theorem qa.more {p:Array Nat} {k:Nat} (h:qa r p k) (e:1≤k→LS r p (k - 1) k):qa r p (k+1):=λi j hij hj=>by
 by_cases c:j < k
 ·exact h i j hij c
 ·obtain rfl:j=k:=by omega
  by_cases c2:i=j - 1
  ·rw[c2];exact e (by omega)
  ·exact (h i (j - 1) (by omega) (by omega)).trans (e (by omega))
theorem Fr.more {p:Array Nat} {n:Nat} (h:Fr p n N) (hn:n < N):Fr p (n+1) N:=by
 refine ⟨λi hi=>?_,λi h1 h2=>h.2 i (by omega) h2⟩;by_cases c:i < n
 ·have:=h.1 i c;omega
 ·rw[h.2 i (by omega) (by omega)];omega
theorem Fr.rev {p:Array Nat} {i n:Nat} (h:Fr p n N) (hp:b9 N p) (hn:n≤N):Fr (kas_rev p i n) n N:=by
 have hs:=hp.size;have e:=gf (r:=λx=>(x:Int)) (p:=p) (i:=i) (j:=n) (by omega);refine ⟨λk hk=>?_,λk h1 h2=>?_⟩
 ·show R _ _ k < _
  rw[e k];split
  ·exact h.1 _ (by omega)
  ·exact h.1 k hk
 ·show R _ _ k=_
  rw[e k,if_neg (by omega)];exact h.2 k h1 h2
theorem Ao (hc:Cmp cmp N r s) {p:Array Nat} (hp:b9 N p) {Q:Nat→Shared→Prop}:∀(f n:Nat),1≤n→n+f≤N→qa r p n→Fr p n N→(∀m,n≤m→m≤n+f→qa r p m→Fr p m N→(m=n+f∨R r p m < R r p (m - 1))→Q m s)→(kas_asc p f n).kasWp cmp Q s
 | 0,n,_,_,hi,hf,q=>q n (aa4 _) (aa4 _) hi hf (.inl rfl)
 | f+1,n,h1,hn,hi,hf,q=>by
  show cmp _ _ _ s
  refine hc _ _ _ (hp.lt (by omega)) (hp.lt (by omega)) ?_;have e1:R r p n=r (p.getD n 0):=rfl;have e2:R r p (n - 1)=r (p.getD (n - 1) 0):=rfl;by_cases c:r (p.getD n 0) < r (p.getD (n - 1) 0)
  ·rw[decide_eq_true c];show KasT.kasWp cmp (if true=true then _ else _) Q s
   rw[if_pos rfl];exact q n (aa4 _) (by omega) hi hf (.inr c)
  ·rw[decide_eq_false c];show KasT.kasWp cmp (if false=true then _ else _) Q s
   rw[if_neg (by decide)];refine Ao hc hp f (n+1) (by omega) (by omega) (hi.more λ_=>?_) (hf.more (by omega)) λm a b c d e=>q m (by omega) (by omega) c d (e.elim (λe=>.inl (by omega)) .inr);have a1:=hf.1 (n - 1) (by omega);have a2:=hf.2 n (aa4 _) (by omega);unfold LS;omega
structure DS (r:Nat→Int) (p:Array Nat) (n k:Nat):Prop where
 far:∀i j,i < j→j < n - (k+1)→LS r p j i
 lo:∀i j,i < n - (k+1)→n - (k+1)≤j→j < n→R r p j < R r p i
 run:∀i j,n - (k+1)≤i→i < j→j < n→R r p i=R r p j∧Ix p i < Ix p j
theorem DS.dec0 {p:Array Nat} {n:Nat} (h:DS r p n 0):E5 r p n:=λi j hij hj=>by
 by_cases c:j < n - 1
 ·exact h.far i j hij c
 ·exact .inl (h.lo i j (by omega) (by omega) hj)
theorem DS.turn {p:Array Nat} {n k:Nat} (h:DS r p n k) (hp:b9 N p) (hn:n≤N):E5 r (kas_rev p (n - (k+1)) n) n:=λi j hij hj=>by
 have hs:=hp.size;have e:=gf (r:=r) (p:=p) (i:=n - (k+1)) (j:=n) (by omega);have g:=gf (r:=λx=>(x:Int)) (p:=p) (i:=n - (k+1)) (j:=n) (by omega);by_cases ci:n - (k+1)≤i
 ·have:=h.run (n - (k+1)+n - 1 - j) (n - (k+1)+n - 1 - i) (by omega) (by omega) (by omega);exact LS.to (p:=p) (i:=n - (k+1)+n - 1 - j) (j:=n - (k+1)+n - 1 - i) (.inr this) (by rw[e,if_pos (by omega)]) (by rw[e,if_pos (by omega)]) (by unfold Ix;rw[g,if_pos (by omega)]) (by unfold Ix;rw[g,if_pos (by omega)])
 ·by_cases cj:n - (k+1)≤j
  ·refine .inl ?_;rw[e,e,if_pos (by omega),if_neg (by omega)];exact h.lo i _ (by omega) (by omega) (by omega)
  ·exact LS.to (p:=p) (i:=j) (j:=i) (h.far i j hij (by omega)) (by rw[e,if_neg (by omega)]) (by rw[e,if_neg (by omega)]) (by unfold Ix;rw[g,if_neg (by omega)]) (by unfold Ix;rw[g,if_neg (by omega)])
theorem E5.next {p:Array Nat} {n:Nat} (h:E5 r p n) (hn:∀i,i < n→R r p n < R r p i):DS r p (n+1) 0:=
 ⟨λi j hij hj=>h i j hij (by omega),λi j hi h1 h2=>by rw[show j=n by omega];exact hn i (by omega),λi j h1 h2 h3=>absurd h2 (by omega)⟩
theorem mn (hc:Cmp cmp N r s) {Q:Array Nat×Nat×Nat→Shared→Prop}:∀(f:Nat) (p:Array Nat) (n k:Nat),b9 N p→1≤n→n+f≤N→k+1≤n→DS r p n k→Fr p n N→
  (∀p' n' k',b9 N p'→n≤n'→n'≤N→k'+1≤n'→DS r p' n' k'→Fr p' n' N→Q (p',n',k') s)→(kas_desc f p n k).kasWp cmp Q s
 | 0,p,n,k,hp,_,hn,hk,hd,hf,q=>q p n k hp (aa4 _) (by omega) hk hd hf
 | f+1,p,n,k,hp,h1,hn,hk,hd,hf,q=>by
  show cmp _ _ _ s
  refine hc _ _ _ (hp.lt (by omega)) (hp.lt (by omega)) ?_;have hsz:=hp.size;have e1:R r p n=r (p.getD n 0):=rfl;have e2:R r p (n - 1)=r (p.getD (n - 1) 0):=rfl;have same:∀i,n - (k+1)≤i→i < n→R r p i=R r p (n - 1):=λi a b=>by
   by_cases c:i=n - 1
   ·rw[c]
   ·exact (hd.run i (n - 1) a (by omega) (by omega)).1
  by_cases c:r (p.getD n 0) < r (p.getD (n - 1) 0)
  ·rw[decide_eq_true c];show KasT.kasWp cmp (if true=true then _ else _) Q s
   rw[if_pos rfl];have low:∀i,i < n→R r p n < R r p i:=λi hi=>by
    by_cases ci:n - (k+1)≤i
    ·have:=same i ci hi;omega
    ·have:=hd.lo i (n - 1) (by omega) (by omega) (by omega);omega
   by_cases hk0:k > 0
   ·rw[if_pos hk0];have e:=gf (r:=r) (p:=p) (i:=n - (k+1)) (j:=n) (by omega);refine mn hc f _ (n+1) 0 (j7 hp) (by omega) (by omega) (by omega) ((hd.turn hp (by omega)).next λi hi=>?_) ((hf.rev hp (by omega)).more (by omega)) λp' n' k' a b c d e g=>q p' n' k' a (by omega) c d e g;rw[e,e,if_neg (by omega)];split
    ·exact low _ (by omega)
    ·exact low i hi
   ·rw[if_neg hk0];obtain rfl:k=0:=by omega
    exact mn hc f p (n+1) 0 hp (by omega) (by omega) (by omega) (hd.dec0.next low) (hf.more (by omega)) λp' n' k' a b c d e g=>q p' n' k' a (by omega) c d e g
  ·rw[decide_eq_false c];show KasT.kasWp cmp (if false=true then _ else _) Q s
   rw[if_neg (by decide)];show cmp _ _ _ s
   refine hc _ _ _ (hp.lt (by omega)) (hp.lt (by omega)) ?_;by_cases c2:r (p.getD (n - 1) 0) < r (p.getD n 0)
   ·rw[decide_eq_true c2];show KasT.kasWp cmp (if true=true then _ else _) Q s
    rw[if_pos rfl];exact q p n k hp (aa4 _) (by omega) hk hd hf
   ·rw[decide_eq_false c2];show KasT.kasWp cmp (if false=true then _ else _) Q s
    rw[if_neg (by decide)];have eq:R r p n=R r p (n - 1):=by omega
    refine mn hc f p (n+1) (k+1) hp (by omega) (by omega) (by omega) ⟨λi j hij hj=>hd.far i j hij (by omega),λi j hi h2 h3=>?_,λi j h2 h3 h4=>?_⟩ (hf.more (by omega)) λp' n' k' a b c d e g=>q p' n' k' a (by omega) c d e g
    ·by_cases cj:j=n
     ·rw[cj,eq];exact hd.lo i (n - 1) (by omega) (by omega) (by omega)
     ·exact hd.lo i j (by omega) (by omega) (by omega)
    ·by_cases cj:j=n
     ·have a1:=hf.1 i (by omega);have a2:=hf.2 n (aa4 _) (by omega);rw[cj,eq,same i (by omega) (by omega)];exact ⟨rfl,by omega⟩
     ·exact hd.run i j (by omega) h3 (by omega)
theorem yc (hc:Cmp cmp N r s) {p:Array Nat} (hp:b9 N p) {n:Nat} (h1:1≤n) (hn:n≤N) (hd:E5 r p n) (hf:Fr p n N) {Q:Nat×Array Nat→Shared→Prop} (q:∀m p',b9 N p'→1≤m→m≤N→qa r p' m→Fr p' m N→Q (m,p') s):(kas_tail3 n N p).kasWp cmp Q s:=by
 unfold kas_tail3;rw[KasT.kasWp_bind];have hsz:=hp.size;have e:=gf (r:=r) (p:=p) (i:=0) (j:=n) (by omega);have g:=gf (r:=λx=>(x:Int)) (p:=p) (i:=0) (j:=n) (by omega);refine Ao hc (j7 hp) (N - n) n h1 (by omega) (λi j hij hj=>?_) (hf.rev hp hn) λm a b c d e=>q m _ (j7 hp) (by omega) (by omega) c d;exact LS.to (p:=p) (i:=0+n - 1 - i) (j:=0+n - 1 - j) (hd _ _ (by omega) (by omega)) (by rw[e,if_pos (by omega)]) (by rw[e,if_pos (by omega)]) (by unfold Ix;rw[g,if_pos (by omega)]) (by unfold Ix;rw[g,if_pos (by omega)])
theorem nc (hc:Cmp cmp N r s) {p:Array Nat} (hp:b9 N p) {n:Nat} (h1:1≤n) (hn:n+1≤N) (hd:DS r p (n+1) 0) (hf:Fr p (n+1) N) {Q:Nat×Array Nat→Shared→Prop} (q:∀m p',b9 N p'→1≤m→m≤N→qa r p' m→Fr p' m N→Q (m,p') s):(kas_descPart n N p).kasWp cmp Q s:=by
 unfold kas_descPart;rw[KasT.kasWp_bind];refine mn hc (N - (n+1)) p (n+1) 0 hp (by omega) (by omega) (by omega) hd hf λp' n' k' hp' a b hk hd' hf'=>?_;by_cases hk0:k' > 0
 ·show KasT.kasWp cmp (if k' > 0 then _ else _) Q s
  rw[if_pos hk0];exact yc hc (j7 hp') (by omega) b (hd'.turn hp' b) (hf'.rev hp' b) q
 ·show KasT.kasWp cmp (if k' > 0 then _ else _) Q s
  rw[if_neg hk0];obtain rfl:k'=0:=by omega
  exact yc hc hp' (by omega) b hd'.dec0 hf' q
theorem Fr.start:Fr (abt (aaq N)) 1 N:=by
 have e:∀i,i < N→Ix (abt (aaq N)) i=i:=λi hi=>by
  unfold Ix R;rw[abq];simp[hi]
 refine ⟨λi hi=>?_,λi _ h=>e i h⟩;by_cases c:i < N
 ·rw[e i c];omega
 ·unfold Ix R;rw[abq];simp[c]
theorem Ir (hc:Cmp cmp N r s) (h2:2≤N) {Q:Nat×Array Nat→Shared→Prop} (q:∀m p',b9 N p'→1≤m→m≤N→qa r p' m→Fr p' m N→Q (m,p') s):(kas_count N (abt (aaq N))).kasWp cmp Q s:=by
 have hp:b9 N (abt (aaq N)):=by unfold b9;exact ad3 _
 have hf0:Fr (abt (aaq N)) 1 N:=Fr.start;generalize abt (aaq N)=p at hp hf0 ⊢;unfold kas_count;rw[KasT.kasWp_bind];have hsz:=hp.size;refine Ao hc hp (N - 1) 1 (aa4 _) (by omega) (λi j a b=>absurd a (by omega)) hf0 λm a b hi hf hm=>?_;show KasT.kasWp cmp (if (m==N)=true then _ else _) Q s
 by_cases e:m=N
 ·rw[if_pos (by simp[e])];exact q m p hp a (by omega) hi hf
 ·rw[if_neg (by simp[e])];have lt:R r p m < R r p (m - 1):=hm.resolve_left (by omega);by_cases h1:m > 1
  ·rw[if_pos h1];show cmp _ _ _ s
   refine hc _ _ _ (hp.lt (by omega)) (hp.lt (by omega)) ?_;by_cases c:r (p.getD 0 0) < r (p.getD (m - 1) 0)
   ·rw[decide_eq_true c];show KasT.kasWp cmp (if true=true then _ else _) Q s
    rw[if_pos rfl];exact q m p hp a (by omega) hi hf
   ·rw[decide_eq_false c];show KasT.kasWp cmp (if false=true then _ else _) Q s
    rw[if_neg (by decide)];have e0:R r p 0=r (p.getD 0 0):=rfl;have e1:R r p (m - 1)=r (p.getD (m - 1) 0):=rfl;have all:∀k,k < m→R r p k=R r p (m - 1):=λk hk=>by
     have a1:=hi.inc 0 k (aa7 _) hk;have a2:=hi.inc k (m - 1) (by omega) (by omega);omega
    have e:=gf (r:=r) (p:=p) (i:=0) (j:=m) (by omega);have g:=gf (r:=λx=>(x:Int)) (p:=p) (i:=0) (j:=m) (by omega);refine nc hc (j7 hp) a (by omega) (E5.next (λi j hij hj=>?_) λi hj=>?_) ((hf.rev hp (by omega)).more (by omega)) q
    ·exact LS.to (p:=p) (i:=0+m - 1 - j) (j:=0+m - 1 - i) (hi _ _ (by omega) (by omega)) (by rw[e,if_pos (by omega)]) (by rw[e,if_pos (by omega)]) (by unfold Ix;rw[g,if_pos (by omega)]) (by unfold Ix;rw[g,if_pos (by omega)])
    ·rw[e m,e i,if_neg (by omega),if_pos (by omega),all (0+m - 1 - i) (by omega)];exact lt
  ·rw[if_neg h1];obtain rfl:m=1:=by omega
   refine nc hc hp (aa4 _) (by omega) (E5.next (λi j hij hj=>absurd hij (by omega)) λi hi=>?_) (hf.more (by omega)) q;rw[show i=1 - 1 by omega];exact lt
theorem Gg (hc:Cmp cmp N r s) {Q:Array Nat→Shared→Prop}:∀(f:Nat) (p:Array Nat) (k:Nat),b9 N p→qa r p k→Fr p k N→k+f=N→(∀p',b9 N p'→qa r p' N→Q p' s)→(kas_bin f p k).kasWp cmp Q s
 | 0,p,k,hp,hi,hf,hk,q=>q p hp (by rw[←hk];exact hi)
 | f+1,p,k,hp,hi,hf,hk,q=>by
  unfold kas_bin;rw[KasT.kasWp_bind];refine vi hc hp (by omega) hi.inc k 0 k (aa7 _) (aa4 _) (by omega) (λi h=>absurd h (by omega)) (λi h1 h2=>absurd h2 (by omega)) λm hm a b=>?_;have hsz:=hp.size;have e:=Ct (r:=r) (p:=p) (src:=k) (d:=k - m) (by omega) (by omega);have g:=Ct (r:=λx=>(x:Int)) (p:=p) (src:=k) (d:=k - m) (by omega) (by omega);rw[show k - (k - m)=m by omega] at e g;have fk:=hf.2 k (aa4 _) (by omega);have key:∀j,j < k+1→∃j',j'≤k∧R r (bubble p k (k - m)) j=R r p j'∧Ix (bubble p k (k - m)) j=Ix p j'∧((j=m∧j'=k)∨(m < j∧j'+1=j)∨(j < m∧j'=j)):=λj hj=>by
   rcases aet j m with c | c | c
   ·exact ⟨j,by omega,by rw[e,if_neg (by omega),if_neg (by omega)],by unfold Ix;rw[g,if_neg (by omega),if_neg (by omega)],.inr (.inr ⟨c,rfl⟩)⟩
   ·exact ⟨k,by omega,by rw[e,if_pos c],by unfold Ix;rw[g,if_pos c],.inl ⟨c,rfl⟩⟩
   ·exact ⟨j - 1,by omega,by rw[e,if_neg (by omega),if_pos (by omega)],by unfold Ix;rw[g,if_neg (by omega),if_pos (by omega)],.inr (.inl ⟨c,by omega⟩)⟩
  refine Gg hc f _ (k+1) (hp.of (bubble_perm _ _ _)) (λi j hij hj=>?_) ⟨λi hi'=>?_,λi h1 h2=>?_⟩ (by omega) q
  ·obtain ⟨i',hi1,e1,g1,c1⟩:=key i (by omega);obtain ⟨j',hj1,e2,g2,c2⟩:=key j hj;refine LS.to (p:=p) (i:=i') (j:=j') ?_ e1 e2 g1 g2;rcases c1 with ⟨c1,d1⟩ | ⟨c1,d1⟩ | ⟨c1,d1⟩ <;> rcases c2 with ⟨c2,d2⟩ | ⟨c2,d2⟩ | ⟨c2,d2⟩
   ·omega
   ·exact .inl (by rw[d1];exact b j' (by omega) (by omega))
   ·omega
   ·omega
   ·exact hi i' j' (by omega) (by omega)
   ·omega
   ·have x1:=a i' (by omega);have x2:=hf.1 i' (by omega);unfold LS;rw[d2];omega
   ·exact hi i' j' (by omega) (by omega)
   ·exact hi i' j' (by omega) (by omega)
  ·obtain ⟨i',hi1,_,g1,_⟩:=key i hi';rw[g1];by_cases c:i' < k
   ·have:=hf.1 i' c;omega
   ·rw[show i'=k by omega,fk];omega
  ·unfold Ix;rw[g,if_neg (by omega),if_neg (by omega)];exact hf.2 i (by omega) h2
theorem J4 (hc:Cmp cmp N r s) (h2:2≤N) {Q:Array Nat→Shared→Prop} (q:∀p,b9 N p→qa r p N→Q p s):(kas_sort N).kasWp cmp Q s:=by
 unfold kas_sort;rw[KasT.kasWp_bind];refine Ir hc h2 λm p hp h1 hm hi hf=>?_;show KasT.kasWp cmp (if m < N then _ else _) Q s
 by_cases c:m < N
 ·rw[if_pos c,show max m 1=m by omega];exact Gg hc (N - m) p m hp hi hf (by omega) q
 ·rw[if_neg c];exact q p hp (by rw[show N=m by omega];exact hi)
end
noncomputable def de (h:Heap) (a:Addr) (vs:List Value):Heap:=((h.update a (Obj.mapSeq λ_=>#[])).push (seqObj "tuple" vs.toArray 0)).push (seqObj "list" #[] 0)
section
variable {prog:Program} {w:World} {A:Around} {E:Value→Shared→Prop} {s:Shared} {r:Nat→Int}
theorem Ey {a:Addr} {vs:List Value} {n:Nat} {P:PySem.Fin→Shared→Prop} (ho:s.heap.get? a=some (seqObj "list" vs.toArray n)) (h64:vs.length < 64)
  (ask:2≤vs.length→wpAny (model prog w) A (keyKind' vs.toArray) (λκ s'=>s'={ s with heap:=de s.heap a vs }∧Cmp (kas_ask prog w A κ vs) vs.length r { s with heap:=de s.heap a vs }) (λ_ _=>False) { s with heap:=de s.heap a vs })
  (h:∀p,b9 vs.length p→Inc r p vs.length→P (.done (.ret .none)) { s with heap:=sortedHeap s.heap a vs (abt (p.toList.map λi=>vs.getD i Value.none)) }):
  wpAny (model prog w) A (Builtin.«list.sort» ⟨[.ref a],[]⟩) P E s:=by
 rw[list_sort_plain];have ha:a < s.heap.objs.size:=Heap.lt_size ho;refine wpAny_bind (listItems_at ho rfl ?_);refine wpAny_bind (listUpdate_at ho rfl ?_ (by rw[aa5,sizeLine_eq];omega) (aa7 _));obtain ⟨e1,ho1⟩:∃e1,(s.heap.update a (Obj.mapSeq λ_=>#[])).get? a=some (seqObj "list" #[] e1):=⟨_,get?_update_seq ho (λ_=>#[])⟩;refine wpAny_bind (seqEpoch_at ho1 rfl ?_);refine wpAny_bind (wpAny_newTuple ?_ (by show vs.length≤_;rw[sizeLine_eq];omega));refine wpAny_bind (wpAny_newList ?_ (aa7 _));refine wpAny_holding ?_;have ho6:(de s.heap a vs).get? a=some (seqObj "list" #[] e1):=by
  unfold de;rw[Heap.get?_push_ne _ _ _ (by rw[size_push',Heap.size_update];exact aao (acj ha)),Heap.get?_push_ne _ _ _ (by rw[Heap.size_update];exact aao ha)];exact ho1
 show wpAny (model prog w) A _ P E { s with heap:=de s.heap a vs }
 dsimp only;have hsz:vs.toArray.size=vs.length:=by simp
 have fin:∀(p:Array Nat) (st':SortSt),arrOf st'=p.map (kas_item (vs.toArray.zip vs.toArray))→b9 vs.length p→Inc r p vs.length→P (.done (.ret .none)) { s with heap:=sortedHeap s.heap a vs ((arrOf st').map (·.2)) }:=λp st' e hp hi=>by
  rw[kat_snds rfl e];exact h p hp hi
 have big:∀(p:Array Nat) (st':SortSt),arrOf st'=p.map (kas_item (vs.toArray.zip vs.toArray))→b9 vs.length p→((arrOf st').map (·.2)).size≤sizeLine:=λp st' e hp=>by
  rw[Array.size_map,e,Array.size_map,hp.size,sizeLine_eq];omega
 by_cases h2:vs.toArray.size < 2
 ·rw[if_pos h2,if_pos h2];refine wpAny_bind (wpAny_pure ?_);rw[StateT.run_pure];refine wpAny_bind (wpAny_pure ?_);dsimp only;have e0:arrOf (SortSt.mk' general' (vs.toArray.zip vs.toArray) #[] 7 none)=(abt (aaq vs.length)).map (kas_item (vs.toArray.zip vs.toArray)):=by
   have e:=kas_range (vs.toArray.zip vs.toArray);rw[show (vs.toArray.zip vs.toArray).size=vs.length by simp] at e;exact e.symm
  have pr:b9 vs.length (abt (aaq vs.length)):=ad3 _;refine wpAny_bind (seqEpoch_at ho6 rfl ?_);refine wpAny_bind (listUpdate_at ho6 rfl ?_ (aa7 _) (aar (big _ _ e0 pr) (by omega)));simp only[bne_self_eq_false,ab6,if_false];refine wpAny_pure (fin _ _ e0 pr λi j hij hj=>?_);have:i=j:=by omega
  subst this;exact abr _
 ·rw[if_neg h2,if_neg h2];refine wpAny_bind (wpAny_mono (ask (by omega)) (λκ s0 hk=>?_) λ_ _ x=>x.elim);obtain ⟨rfl,hc⟩:=hk;refine wpAny_bind (wpAny_mono (kat_run (Q:=λst' s'=>s'={ s with heap:=de s.heap a vs }∧∃p:Array Nat,b9 vs.length p∧Inc r p vs.length∧arrOf st'=p.map (kas_item (vs.toArray.zip vs.toArray))∧failedOf st'=none)
   (G:=λp s'=>s'={ s with heap:=de s.heap a vs }∧b9 vs.length p∧Inc r p vs.length) rfl (by omega) h64 (λp st' s' a1 a2 a3 a4=>⟨a4.1,p,a4.2.1,a4.2.2,a2,a3⟩) (J4 hc (by omega) λp hp hi=>⟨rfl,hp,hi.inc⟩)) ?_ λ_ _ e=>e)
  rintro ⟨⟨⟩,st'⟩ s' ⟨rfl,p,hp,hi,har,hf⟩;dsimp only;refine wpAny_bind (seqEpoch_at ho6 rfl ?_);refine wpAny_bind (listUpdate_at ho6 rfl ?_ (aa7 _) (aar (big _ _ har hp) (by omega)));rw[hf];simp only[bne_self_eq_false,ab6,if_false];exact wpAny_pure (fin p st' har hp hi)
theorem B1 {l:Addr} {vs:List Value} {Q:List Value→Shared→Prop} (hl:s.heap.IsTuple l vs.toArray)
  (h:Q vs { s with heap:=(s.heap.push (seqObj "list" #[] 0)).update s.heap.objs.size (Obj.mapSeq (·++vs.toArray)) }) (hsz:vs.length≤sizeLine):
  wpAny (model prog w) A (collect (.ref l)) Q E s:=by
 obtain ⟨o,ho,hc,n,hd⟩:=id hl;unfold collect;refine wpAny_bind (wpAny_runValue (codeAny_builtin entry_proto_collect' ?_));show wpAny _ _ (do again (.builtin "list.__iadd__" ⟨[←newList [],.ref l],[]⟩)) _ _ s
 refine wpAny_bind (wpAny_newList (wpAny_pure ⟨Code.quiet_builtin _ (by decide+kernel),codeAny_builtin entry_list_iadd' ?_⟩));show wpAny _ _ (Builtin.List.listExtendWith (.ref s.heap.objs.size) (.ref l) (.ref s.heap.objs.size)) _ _ { s with heap:=s.heap.push (seqObj "list" #[] 0) }
 unfold Builtin.List.listExtendWith;have ho':(s.heap.push (seqObj "list" #[] 0)).get? l=some o:=Heap.get?_push_of_some _ ho;refine wpAny_bind (wpAny_typeOf (T:="tuple") ⟨o,ho',hc⟩ ?_);have ht:(Value.type "tuple"==Value.type "tuple")=true:=by rfl
 rw[if_pos (by rw[ht];simp)];refine wpAny_bind (listItems_at ho' hd ?_);refine wpAny_bind (listItems_at (xs:=#[]) (n:=0) (Heap.get?_push_size _ rfl) rfl ?_);rw[if_neg (by simp)];refine wpAny_bind (listUpdate_at (xs:=#[]) (n:=0) (Heap.get?_push_size _ rfl) rfl ?_ (aa7 _) (by show (#[]++vs.toArray).size≤sizeLine+1;simp only[Array.size_append,aa5,acf];omega));refine wpAny_pure ?_;show wpAny (model prog w) A (do
   let o ←load s.heap.objs.size
   match o.data with
   | .seq xs _=>pure xs.toList
   | _=>unsupported "internal:collect") Q E { s with heap:=(s.heap.push (seqObj "list" #[] 0)).update s.heap.objs.size (Obj.mapSeq (·++vs.toArray)) }
 refine wpAny_bind (wpAny_load (get?_update_seq (Heap.get?_push_size _ rfl) _) ?_);show wpAny _ _ (pure ((#[]:Array Value)++vs.toArray).toList) Q E _
 rw[show ((#[]:Array Value)++vs.toArray).toList=vs by simp];exact wpAny_pure h
noncomputable def ei (h:Heap) (vs:List Value):Heap:=((h.push (seqObj "list" #[] 0)).update h.objs.size (Obj.mapSeq (·++vs.toArray))).push (seqObj "list" vs.toArray 0)
theorem Q0 {l:Addr} {vs:List Value} {Q:Value→Shared→Prop} (hl:s.heap.IsList l vs.toArray∨s.heap.IsTuple l vs.toArray) (h64:vs.length < 64)
  (ask:2≤vs.length→wpAny (model prog w) A.in1.in1 (keyKind' vs.toArray) (λκ s'=>s'={ s with heap:=de (ei s.heap vs) (s.heap.objs.size+1) vs }∧Cmp (kas_ask prog w A.in1.in1 κ vs) vs.length r { s with heap:=de (ei s.heap vs) (s.heap.objs.size+1) vs }) (λ_ _=>False) { s with heap:=de (ei s.heap vs) (s.heap.objs.size+1) vs })
  (h:∀p,b9 vs.length p→Inc r p vs.length→Q (.ref (s.heap.objs.size+1)) { s with heap:=sortedAll s.heap vs (abt (p.toList.map λi=>vs.getD i Value.none)) }):
  wpAny (model prog w) A (call (.builtin "sorted") [.ref l]) Q E s:=by
 have sz:vs.length≤sizeLine:=by rw[sizeLine_eq];omega
 refine Calls.call_function_entry kind_sorted plain_sorted entry_sorted (args_sorted1 _) ?_;unfold Builtin.«sorted»;refine wpAny_bind (m:=checkCount "sorted" 1 1 _) (wpAny_pure ?_);have go:∀{Q':List Value→Shared→Prop},Q' vs { s with heap:=(s.heap.push (seqObj "list" #[] 0)).update s.heap.objs.size (Obj.mapSeq (·++vs.toArray)) }→wpAny (model prog w) A.in1 (collect (.ref l)) Q' E s:=λ{Q'} q=>by
  rcases hl with hl | hl
  ·exact collect_list hl q sz
  ·exact B1 hl q sz
 refine wpAny_bind (go ?_);refine wpAny_bind (wpAny_newList ?_ sz);have hsz:((s.heap.push (seqObj "list" #[] 0)).update s.heap.objs.size (Obj.mapSeq (·++vs.toArray))).objs.size=s.heap.objs.size+1:=by
  rw[Heap.size_update,size_push']
 have hoL:(ei s.heap vs).get? (s.heap.objs.size+1)=some (seqObj "list" vs.toArray 0):=by
  unfold ei;rw[←hsz];exact Heap.get?_push_size _ rfl
 show wpAny _ _ _ _ _ { s with heap:=ei s.heap vs }
 rw[hsz];refine wpAny_bind (wpAny_holding (wpAny_call_entry slot_list_sort ⟨_,hoL,rfl⟩ entry_list_sort (Ey (s:={ s with heap:=ei s.heap vs }) hoL h64 ask λp hp hi=>⟨_,rfl,?_⟩) (args_list_sort _)));exact wpAny_pure ⟨_,rfl,h p hp hi⟩
end
end L2.Srt
namespace L2
open PySem PySem.Spec PyProof.Rows Srt
def Ords (P:Program) (w:World) (A:Around) (H:Hp) (ys:List V) (rk:Nat→Int):Prop:=
 ∀(s:Shared) (vs:List Value),HOk P w H s.heap→Vals ys vs→2≤vs.length→wpAny (model P w) A (keyKind' vs.toArray) (λκ s'=>s'=s∧Cmp (PySem.W.kas_ask P w A κ vs) vs.length rk s) (λ_ _=>False) s
theorem O6 {h:Heap} {vs:List Value} {b:Addr} {o:Obj} (hb:h.get? b=some o):(de (ei h vs) (h.objs.size+1) vs).get? b=some o:=by
 have hlt:b < h.objs.size:=Heap.lt_size hb;have hsz:(ei h vs).objs.size=h.objs.size+2:=by unfold ei;rw[size_push',Heap.size_update,size_push']
 unfold de;rw[Heap.get?_push_ne _ _ _ (by rw[size_push',Heap.size_update,hsz];exact aao (aam hlt (by omega))),Heap.get?_push_ne _ _ _ (by rw[Heap.size_update,hsz];exact aao (aam hlt (by omega))),Heap.get?_update_ne _ _ _ _ (aao (aam hlt (by omega)))];unfold ei;rw[Heap.get?_push_ne _ _ _ (by rw[Heap.size_update,size_push'];exact aao (aam hlt (by omega))),Heap.get?_update_ne _ _ _ _ (aao hlt),Heap.get?_push_ne _ _ _ (aao hlt)];exact hb
theorem yd {ys:List V} {vs:List Value} (r:Vals ys vs):∀(is:List Nat),(∀i∈is,i < ys.length)→Vals (is.map λi=>ys.getD i .non) (is.map λi=>vs.getD i Value.none)
 | [],_=>.nil
 | i::is,h=>by
  have hi:=h i aa9;obtain ⟨u,hu,ru⟩:=r.get (aa0 hi);refine .cons ?_ (yd r is λj hj=>h j (aab _ hj));have e1:ys.getD i .non=ys[i]:=by rw[aae,aa0 hi];rfl
  have e2:vs.getD i Value.none=u:=by rw[aae,hu];rfl
  show RelV (ys.getD i .non) (vs.getD i Value.none)
  rw[e1,e2];exact ru
section
variable {X:Cx}
theorem ji:jn X (.builtin "sorted") (λxs H Q=>∃p ys rk,xs=[.ref p]∧(SqL X.K H p ys∨SqT X.K H p ys)∧ys.length < 64∧Ords X.prog X.w X.A.in1.in1 H ys rk∧
  ∀(l:Addr) (is:List Nat),is.Perm (aaq ys.length)→(∀i j,i≤j→j < ys.length→rk (is.getD i 0)≤rk (is.getD j 0))→H l=none→Q (.ref l) (upd H l (.lst (is.map λi=>ys.getD i .non)))):=by
 intro pins s σ H xs us Q I r h;obtain ⟨p,ys,rk,rfl,hq,h64,ho,q⟩:=h;obtain ⟨u,rfl,rx⟩:=vals1 r;cases rx
 obtain ⟨its,r',hl⟩:∃its,Vals ys its∧(s.heap.IsList p its.toArray∨s.heap.IsTuple p its.toArray):=by
  rcases hq with hq | hq
  ·obtain ⟨its,r',pl,_⟩:=I.list hq;exact ⟨its,r',.inl pl.isList⟩
  ·obtain ⟨its,r',pl,_⟩:=I.tuple hq;exact ⟨its,r',.inr pl⟩
 have hlen:=r'.length;refine Q0 (r:=rk) hl (by omega) (λh2=>?_) λpm hp hi=>?_
 ·exact ho { s with heap:=de (ei s.heap its) (s.heap.objs.size+1) its } its (I.hok.kept λb o e=>O6 e) r' h2
 ·obtain ⟨e,he⟩:=sortedAll_at s.heap its (abt (pm.toList.map λi=>its.getD i Value.none));have hp':pm.toList.Perm (aaq ys.length):=by rw[hlen];exact hp
  have hin:∀i∈pm.toList,i < ys.length:=λi hi=>List.mem_range.mp (hp'.mem_iff.mp hi);have hz:(pm.toList.map λi=>ys.getD i V.non).length≤sizeLine:=by
   have sz:=sizeLine_eq;rw[aa1,hp'.length_eq,aby];omega
  refine ⟨.ref (s.heap.objs.size+1),_,I.laid (t':=s.toks) (λb o e=>sortedAll_old e) (ad8 _) (show b7 X.prog X.w _ _ _ (.lst (pm.toList.map λi=>ys.getD i V.non)) from ⟨hz,_,e,yd r' _ hin,he⟩),rfl,q _ _ hp' (λi j hij hj=>?_) (I.hok.fresh (ad8 _))⟩;have:=hi i j hij (by omega);have g:∀k,pm.toList.getD k 0=pm.getD k 0:=λk=>by
   rw[abq,aae,ada]
  rw[g,g];exact this
end
theorem xf {α:Type} {p q:α→Bool}:∀{l:List α},(∀x∈l,p x=true→q x=true)→(∃x∈l,q x=true∧p x=false)→l.countP p < l.countP q
 | [],_,h=>by obtain ⟨x,hx,_⟩:=h;cases hx
 | a::t,hm,h=>by
  rw[aey,aey];have mono:=aee (l:=t) (λx hx=>hm x (aab _ hx));have ha:=hm a aa9;by_cases hw:q a=true∧p a=false
  ·rw[hw.1,hw.2];simp;omega
  ·have:∃x∈t,q x=true∧p x=false:=by
    obtain ⟨x,hx,hq⟩:=h;rcases List.mem_cons.mp hx with rfl | hx
    ·exact absurd hq hw
    ·exact ⟨x,hx,hq⟩
   have ih:=xf (λx hx=>hm x (aab _ hx)) this;cases hp:p a with
   | true=>rw[ha hp];simp;omega
   | false=>cases q a <;> simp <;> omega
noncomputable def rank (n:Nat) (lt:Nat→Nat→Bool) (i:Nat):Int:=(((aaq n).countP λk=>lt k i:Nat):Int)
structure Ord (n:Nat) (lt:Nat→Nat→Bool):Prop where
 irr:∀i,i < n→lt i i=false
 tr:∀i j k,i < n→j < n→k < n→lt i j=true→lt j k=true→lt i k=true
 neg:∀i j k,i < n→j < n→k < n→lt i k=true→lt i j=true∨lt j k=true
theorem Ord.rank {n:Nat} {lt:Nat→Nat→Bool} (o:Ord n lt) {i j:Nat} (hi:i < n) (hj:j < n):decide (rank n lt i < rank n lt j)=lt i j:=by
 cases h:lt i j with
 | true=>
  apply decide_eq_true
  have:(aaq n).countP (λk=>lt k i) < (aaq n).countP λk=>lt k j:=xf (λk hk e=>o.tr k i j (List.mem_range.mp hk) hi hj e h) ⟨i,List.mem_range.mpr hi,h,o.irr i hi⟩;unfold L2.rank;omega
 | false=>
  apply decide_eq_false
  have:(aaq n).countP (λk=>lt k j)≤(aaq n).countP λk=>lt k i:=aee λk hk e=>by
   rcases o.neg k i j (List.mem_range.mp hk) hi hj e with e | e
   ·exact e
   ·rw[h] at e;cases e
  unfold L2.rank;omega
noncomputable def ltS (x y:Str):Bool:=decide (x.cps.toList < y.cps.toList)
theorem zw (x:Str):ltS x x=false:=decide_eq_false (List.lt_irrefl _)
theorem Ap {x y z:Str} (h1:ltS x y=true) (h2:ltS y z=true):ltS x z=true:=decide_eq_true (List.lt_trans (of_decide_eq_true h1) (of_decide_eq_true h2))
theorem Fz (x y:Str):ltS x y=true∨x=y∨ltS y x=true:=by
 by_cases h1:x.cps.toList < y.cps.toList
 ·exact .inl (decide_eq_true h1)
 by_cases h2:y.cps.toList < x.cps.toList
 ·exact .inr (.inr (decide_eq_true h2))
 exact .inr (.inl (str_eq.mpr (List.le_antisymm (List.not_lt.mp h2) (List.not_lt.mp h1))))
theorem Gk {x z:Str} (y:Str) (h:ltS x z=true):ltS x y=true∨ltS y z=true:=by
 rcases Fz x y with e | e | e
 ·exact .inl e
 ·subst e;exact .inr h
 ·exact .inr (Ap e h)
section
variable {P:Program} {w:World} {A:Around} {H:Hp}
theorem tq {zs:List Str}:Ords P w A H (zs.map V.str) (rank zs.length λi j=>ltS (zs.getD i "") (zs.getD j "")):=by
 intro s vs hok r h2;have hlen:=r.length;rw[aa1] at hlen;have at':∀i,i < zs.length→∃t,vs.getD i Value.none=.str (zs.getD i "") t:=λi hi=>by
  obtain ⟨u,hu,t,rfl⟩:=r.get (i:=i) (x:=.str (zs.getD i "")) (by rw[aaa,aa0 hi,aae,aa0 hi];rfl);exact ⟨t,by rw[aae,hu];rfl⟩
 have o:Ord zs.length λi j=>ltS (zs.getD i "") (zs.getD j ""):=⟨λ_ _=>zw _,λ_ _ _ _ _ _ a b=>Ap a b,λ_ j _ _ _ _ a=>Gk _ a⟩;have sa:StrsAre vs (vs.map strOf):=strsAre_map vs λv hv=>by
  obtain ⟨i,hi,e⟩:=List.mem_iff_getElem.mp hv;obtain ⟨t,et⟩:=at' i (by omega);rw[aae,aa0 hi] at et;exact ⟨_,t,by rw[←e];exact et⟩
 obtain ⟨v₁,v₂,rest,rfl⟩:∃v₁ v₂ rest,vs=v₁::v₂::rest:=by
  match vs,h2 with
  | v₁::v₂::rest,_=>exact ⟨v₁,v₂,rest,rfl⟩
 rw[keyKind_strs sa];refine wpAny_pure ⟨rfl,λi j C hi hj hC=>?_⟩;obtain ⟨t,e1⟩:=at' i (by omega);obtain ⟨u,e2⟩:=at' j (by omega);show wpAny (model P w) A (keyLt' oneType' _ _) C _ s
 rw[e1,e2];refine PySem.W.kas_lt_str ?_;rw[o.rank (by omega) (by omega)] at hC;exact hC
end
end L2
namespace L2
open PySem PySem.Spec PyProof.Rows
theorem Inv.G4 {X:Cx} {pins:List (Addr×Obj)} {σ:St} {H:Hp} {s:Shared} {h':Heap} {t':Nat} {fp:List Addr} (I:Inv X pins σ H s) (k:∀b o,b∉fp→s.heap.get? b=some o→h'.get? b=some o) (hf:∀b∈fp,qg X pins H b):Inv X pins σ H { s with heap:=h',toks:=t' }:=by
 have nfp:∀b u,H b=some u→b∉fp:=λb u e z=>by rw[(hf b z).1] at e;cases e
 refine I.step (g':=s.gens) (d':=s.drawn) (ch:=fp) (λb hb=>?_) (λb o _ _ hc e _=>k b o hc e) (λb o _ _ hc e _=>⟨o.slots,k b o hc e⟩) (λ_ _ _ _ n=>n)
  (λb o hc e=>⟨o,k b o hc e⟩) (λ_ _ e=>e) (λ_ _ _ e=>e) (λb ps e=>⟨#[],by rw[e];simp⟩) (λm hm=>?_) (λb u e=>?_) I.bare
 ·obtain ⟨f0,f1,f2,f3,f4,f5⟩:=hf b hb;exact ⟨f3,f1,f4,f5⟩
 ·exact hm.at λo e=>k _ o (λz=>(hf _ z).2.1 rfl) e
 ·exact (I.hok b u e).Bi (λc v hc q=>k c v (by
   rcases hc with rfl | hc
   ·exact nfp _ u e
   ·exact nfp _ _ hc) q) (λ_ q=>q) λ_ _ q=>q
end L2
namespace Pc
open PySem PySem.Spec L2 PyProof.Rows
theorem c7 {α:Type} (l:List α) (k:Int) (h0:0≤k) (h1:k < (l.length:Int)):∃c,atI l k=some c∧c∈l:=by
 have hk:k.toNat < l.length:=by omega
 have e:k=((k.toNat:Nat):Int):=by omega
 have q:atI l ((k.toNat:Nat):Int)=some l[k.toNat]:=bg (aa0 hk);rw[←e] at q;exact ⟨_,q,ab7 hk⟩
end Pc
namespace Pc
noncomputable def eat:Nat→List Nat→Option Nat
 | 0,_=>some 0
 | _+1,[]=>none
 | l+1,a::r=>(eat (l+a) r).map (·+1)
noncomputable def pend:Nat→List Nat→Option Nat
 | l,[]=>some l
 | 0,_::_=>none
 | l+1,a::r=>pend (l+a) r
noncomputable def starts:Nat→List Nat→List Nat
 | _,[]=>[]
 | p,a::r=>p::(starts (p+1) r).drop a
theorem kf (r:List Nat):eat 0 r=some 0:=by cases r <;> rfl
theorem dm (l a:Nat) (r:List Nat):eat (l+1) (a::r)=(eat (l+a) r).map (·+1):=rfl
theorem m7:∀(xs ys:List Nat) (l:Nat),pend l (xs++ys)=(pend l xs).bind λm=>pend m ys
 | [],ys,l=>by cases l <;> rfl
 | a::r,ys,0=>rfl
 | a::r,ys,l+1=>by
  show pend (l+a) (r++ys)=(pend (l+a) r).bind _
  exact m7 r ys (l+a)
theorem Cr (l a:Nat) (h:0 < l):pend l [a]=some (l - 1+a):=by
 cases l with
 | zero=>omega
 | succ l=>show some (l+a)=some (l+1 - 1+a);rw[acw]
theorem wu (xs:List Nat) (a l d:Nat) (h:pend l xs=some d) (hd:0 < d):pend l (xs++[a])=some (d - 1+a):=by
 rw[m7,h];exact Cr d a hd
theorem qd:∀(r:List Nat) (l n:Nat),eat l r=some n→n≤r.length
 | r,0,n,h=>by rw[kf] at h;cases h;exact aa7 _
 | [],l+1,n,h=>by cases h
 | a::r,l+1,n,h=>by
  rw[dm] at h;obtain ⟨m,hm,rfl⟩:=Option.map_eq_some_iff.mp h;have:=qd r (l+a) m hm;rw[aai];omega
theorem qx:∀(r:List Nat) (l:Nat),pend l r=some 0→eat l r=some r.length
 | [],l,h=>by
  cases h
  rfl
 | a::r,0,h=>by cases h
 | a::r,l+1,h=>by
  rw[dm,qx r (l+a) h];rfl
theorem xm (r:List Nat) (l:Nat) (h:pend l r=some 0) (p:Nat):∃m,pend m (r.drop p)=some 0:=by
 have e:r=r.take p++r.drop p:=(ac5 p r).symm;rw[e,m7] at h;cases q:pend l (r.take p) with
 | none=>rw[q] at h;cases h
 | some m=>rw[q] at h;exact ⟨m,h⟩
theorem Mf {m:Nat} {r:List Nat} (h:pend m r=some 0) (hr:r≠[]):0 < m:=by
 cases r with
 | nil=>exact absurd rfl hr
 | cons a r=>
  cases m with
  | zero=>cases h
  | succ m=>omega
theorem vn:∀(r:List Nat) (l m:Nat),pend (l+m) r=some 0→∃n,eat l r=some n∧pend m (r.drop n)=some 0
 | r,0,m,h=>⟨0,kf r,by rw[ack] at h;exact h⟩
 | [],l+1,m,h=>by
  have:l+1+m=0:=aa3 h;omega
 | a::r,l+1,m,h=>by
  have e:l+1+m=(l+m)+1:=by omega
  rw[e] at h;have h':pend (l+a+m) r=some 0:=by
   have e2:l+a+m=l+m+a:=by omega
   rw[e2];exact h
  obtain ⟨n,h1,h2⟩:=vn r (l+a) m h';exact ⟨n+1,by rw[dm,h1];rfl,h2⟩
theorem qk:∀(r:List Nat) (l n p:Nat),eat l r=some n→(starts p r).drop l=starts (p+n) (r.drop n)
 | r,0,n,p,h=>by rw[kf] at h;cases h;rfl
 | [],l+1,n,p,h=>by cases h
 | a::r,l+1,n,p,h=>by
  rw[dm] at h;obtain ⟨m,hm,rfl⟩:=Option.map_eq_some_iff.mp h;show ((starts (p+1) r).drop a).drop l=starts (p+(m+1)) (r.drop m)
  rw[adl,adz a l,qk r (l+a) m (p+1) hm];congr 1
  omega
theorem uf:∀(r:List Nat) (l p:Nat),pend l r=some 0→(starts p r).length=l
 | [],l,p,h=>by
  have:l=0:=aa3 h;rw[this];rfl
 | a::r,0,p,h=>by cases h
 | a::r,l+1,p,h=>by
  have ih:=uf r (l+a) (p+1) h;show ((starts (p+1) r).drop a).length+1=l+1
  rw[aan,ih];omega
theorem qw (r:List Nat) (p:Nat) (h:r≠[]):∃t,starts p r=p::t:=by
 cases r with
 | nil=>exact absurd rfl h
 | cons a r=>exact ⟨_,rfl⟩
theorem Hm (ar:List Nat) (p:Nat) (h:p < ar.length):starts p (ar.drop p)=p::(starts (p+1) (ar.drop (p+1))).drop (ar.getD p 0):=by
 rw[aax h];have e:ar.getD p 0=ar[p]:=by rw[aae,aa0 h];rfl
 rw[e];rfl
end Pc
namespace Pc
open PySem PySem.Spec L2 PyProof.Rows
noncomputable abbrev parts:List (Key×V):=[(Sum.inr "add",.int 2),(Sum.inr "sub",.int 2),(Sum.inr "mul",.int 2),(Sum.inr "neg",.int 1)]
noncomputable def arS (z:Str):Nat:=if z="add" then 2 else if z="sub" then 2 else if z="mul" then 2 else if z="neg" then 1 else 0
noncomputable def arV:V→Nat
 | .str z=>arS z
 | _=>0
def isW (v:V):Prop:=∃k:Key,v=kV k
theorem Iq (k:Key):(cu parts k).getD (.int 0)=.int (arV (kV k)):=by
 cases k with
 | inl i=>rfl
 | inr z=>
  show (cu parts (Sum.inr z)).getD (.int 0)=.int (arS z)
  unfold arS;by_cases h1:z="add"
  ·subst h1;rw[bw rfl,if_pos rfl];rfl
  rw[bu (λe=>h1 (Sum.inr.inj e).symm),if_neg h1];by_cases h2:z="sub"
  ·subst h2;rw[bw rfl,if_pos rfl];rfl
  rw[bu (λe=>h2 (Sum.inr.inj e).symm),if_neg h2];by_cases h3:z="mul"
  ·subst h3;rw[bw rfl,if_pos rfl];rfl
  rw[bu (λe=>h3 (Sum.inr.inj e).symm),if_neg h3];by_cases h4:z="neg"
  ·subst h4;rw[bw rfl,if_pos rfl];rfl
  rw[bu (λe=>h4 (Sum.inr.inj e).symm),if_neg h4];rfl
theorem arS_le (z:Str):arS z≤2:=by
 unfold arS;repeat' split
 all_goals decide
theorem tj (v:V):arV v≤2:=by cases v <;> first | exact arS_le _ | exact aa7 _
theorem qh {z:Str} (h:0 < arS z):z="add"∨z="sub"∨z="mul"∨z="neg":=by
 unfold arS at h;by_cases h1:z="add"
 ·exact .inl h1
 by_cases h2:z="sub"
 ·exact .inr (.inl h2)
 by_cases h3:z="mul"
 ·exact .inr (.inr (.inl h3))
 by_cases h4:z="neg"
 ·exact .inr (.inr (.inr h4))
 rw[if_neg h1,if_neg h2,if_neg h3,if_neg h4] at h;exact absurd h (by decide)
def isTerm (ws:List V):Prop:=pend 1 (ws.map arV)=some 0
theorem isTerm.ne {ws:List V} (h:isTerm ws):ws≠[]:=by
 intro e;rw[e] at h;cases h
def xn:Sp:=λvs H Q _=>∃v,vs=[v]∧isW v∧Q (.int (arV v)) H
def fq (H:Hp) (d b:Addr) (ns:List Int) (n:Nat):Prop:=H d=some (.lst [.ref b,.int (n:Int)])∧H b=some (.lst (aei V.int ns))
def ao (d:Addr) (H H':Hp):Prop:=∀b o,b≠d→H b=some o→H' b=some o
theorem ao.refl (d:Addr) (H:Hp):ao d H H:=λ_ _ _ h=>h
theorem ao.trans {d:Addr} {H H1 H2:Hp} (a:ao d H H1) (b:ao d H1 H2):ao d H H2:=λc o n h=>b c o n (a c o n h)
theorem ao.of {d:Addr} {H H':Hp} (a:ah H H'):ao d H H':=λb o _ h=>a b o h
theorem ao.upd {d p:Addr} {H H':Hp} (a:ao d H H') (hp:H p=none) (o:HO):ao d H (L2.upd H' p o):=λb u n h=>by rw[ag (af h hp)];exact a b u n h
theorem fq.ne {H:Hp} {d b:Addr} {ns:List Int} {n:Nat} (h:fq H d b ns n):b≠d:=gx h.2 h.1 (by intro e;cases ns <;> simp at e)
theorem fq.next {H H':Hp} {d b:Addr} {ns:List Int} {n k:Nat} (h:fq H d b ns n) (s:ao d H H') (e:H' d=some (.lst [.ref b,.int (k:Int)])):fq H' d b ns k:=⟨e,s b _ h.ne h.2⟩
theorem fq.same {H H':Hp} {d b:Addr} {ns:List Int} {n:Nat} (h:fq H d b ns n) (s:ah H H'):fq H' d b ns n:=⟨s _ _ h.1,s _ _ h.2⟩
noncomputable def ng (H:Hp) (p:Addr):Nat:=match H p with | some (.lst ws)=>ws.length | _=>0
theorem i7 {H:Hp} {p:Addr} {ws:List V} (h:H p=some (.lst ws)):ng H p=ws.length:=by unfold ng;rw[h]
def jw:Sp:=λvs H Q _=>∃(d b:Addr) (ns:List Int) (n:Nat),vs=[.ref d]∧fq H d b ns n∧n≤100000∧∀(c:Int) (H':Hp),ao d H H'→H' d=some (.lst [.ref b,.int ((n+1:Nat):Int)])→Q (.int c) H'
theorem jj {z:Str}:∀{xs:List V},inV (.str z) xs=true→.str z∈xs:=by
 intro xs h;unfold inV at h;obtain ⟨y,hy,e⟩:=List.any_eq_true.mp h;cases y with
 | str x=>
  have e':x=z:=by simpa [eqV] using e
  exact e' ▸ hy
 | _=>simp[eqV] at e
theorem Ek (z:Str) (n:Nat):(lz z n).cps.toList=(aak n z.cps.toList).flatten:=by unfold lz;simp
theorem zj:arS "neg"=1:=by decide+kernel
theorem ao.free {d t:Addr} {H H':Hp} {o:HO} (s:ao d H H') (hd:H' d=some o) (ht:H' t=none):H t=none:=by
 cases e:H t with
 | none=>rfl
 | some u=>
  by_cases h:t=d
  ·subst h;rw[hd] at ht;cases ht
  ·rw[s t u h e] at ht;cases ht
theorem Mh (ns:List Int) (lo hi:Option Int):∃ms:List Int,ib (ns.map V.int) lo hi=ms.map V.int∧ms.length≤ns.length:=by
 refine ⟨_,by unfold ib;rw[←ac7,←adu],?_⟩;rw[aav,aan];omega
theorem Fn:∀(r:List Nat) (l:Nat),pend l r=some 0→l≤r.length
 | [],l,h=>by
  have:l=0:=aa3 h;omega
 | a::r,0,h=>by cases h
 | a::r,l+1,h=>by
  have:=Fn r (l+a) h;rw[aai];omega
theorem sf:∀(r:List Nat) (j k:Nat),eat (j+k) r=(eat j r).bind λs=>(eat k (r.drop s)).map (s+·)
 | r,0,k=>by
  rw[kf,ack];show eat k r=(eat k r).map (0+·)
  cases eat k r with
  | none=>rfl
  | some n=>show some n=some (0+n);rw[ack]
 | [],j+1,k=>by
  rw[show j+1+k=(j+k)+1 by omega];rfl
 | a::r,j+1,k=>by
  rw[show j+1+k=(j+k)+1 by omega,dm,dm,show j+k+a=j+a+k by omega,sf r (j+a) k];cases eat (j+a) r with
  | none=>rfl
  | some s=>
   show ((eat k (r.drop s)).map (s+·)).map (·+1)=(eat k (r.drop s)).map (s+1+·)
   cases eat k (r.drop s) with
   | none=>rfl
   | some n=>show some (s+n+1)=some (s+1+n);congr 1;omega
theorem Aa:∀(r:List Nat) (k n:Nat),eat (k+1) r=some n→0 < n
 | [],k,n,h=>by cases h
 | a::r,k,n,h=>by
  rw[dm] at h;obtain ⟨m,hm,rfl⟩:=Option.map_eq_some_iff.mp h;omega
theorem mv (ws:List V) (p:Nat) (h:p≤ws.length):ib ws none (some (p:Int))=ws.take p:=by
 unfold ib;rw[HT.yn,HT.vb,ae8 h];rfl
theorem K4 (ws:List V) (p n:Nat) (h:p+n≤ws.length):ib ws (some ((p:Int)+(n:Int))) none=ws.drop (p+n):=by
 unfold ib;rw[show (p:Int)+(n:Int)=((p+n:Nat):Int) by omega,HT.yn,HT.vb,ae8 h];apply abe
 rw[aan];omega
theorem Dj {ws:List V} (h:isTerm ws) {p:Nat} {x:V} (hx:ws[p]?=some x):∃m,pend (m+arV x) ((ws.drop (p+1)).map arV)=some 0:=by
 have hp:p < ws.length:=(List.getElem?_eq_some_iff.mp hx).1;have hd:ws.drop p=x::ws.drop (p+1):=by
  rw[aax hp];congr 1
  rw[aa0 hp] at hx;exact aa3 hx
 obtain ⟨m,hm⟩:=xm _ 1 h p;rw[←ac7,hd] at hm;cases m with
 | zero=>cases hm
 | succ m'=>exact ⟨m',hm⟩
theorem Ci {x:V} (hx:isW x):(inV x [V.str "add",V.str "sub",V.str "mul"]=true)↔arV x=2:=by
 obtain ⟨k,rfl⟩:=hx;cases k with
 | inl i=>
  constructor
  ·intro h;exact absurd h (by simp[inV,eqV,kV])
  ·intro h;exact absurd h (by show ¬(0=2);decide)
 | inr z=>
  show (inV (.str z) _=true)↔arS z=2
  constructor
  ·intro h;have:=jj h;simp only[aal,aa8,or_false,V.str.injEq] at this;rcases this with rfl | rfl | rfl <;> decide+kernel
  ·intro h;rcases qh (z:=z) (by omega) with rfl | rfl | rfl | rfl
   ·decide+kernel
   ·decide+kernel
   ·decide+kernel
   ·rw[zj] at h;exact absurd h (by decide)
noncomputable def intAt (σ:L2.St) (i:Nat):Nat:=match σ[i]? with | some (some (.int x))=>x.toNat | _=>0
def As (K:PySem.W.Frag):Sp:=λvs H Q _=>∃(t:Addr) (ws:List V) (p n:Nat),vs=[.ref t,.int (p:Int)]∧SqT K H t ws∧(∀v∈ws,isW v)∧ws.length≤1000∧eat 1 ((ws.drop p).map arV)=some n∧∀H',ah H H'→Q (.int ((p:Int)+(n:Int))) H'
section
variable {κ:Type} [DecidableEq κ]
theorem nd_put {kvs:List (κ×V)} {k:κ} (v:V) (hn:(kvs.map (·.1)).Nodup):((putK kvs k v).map (·.1)).Nodup:=by
 cases h:cu kvs k with
 | none=>exact Oy v hn h
 | some y=>
  have e:(putK kvs k v).map (·.1)=kvs.map (·.1):=by
   unfold putK;rw[if_pos (by rw[eh,h];rfl),ac3];apply aeo
   intro p _;show (if p.1=k then (p.1,v) else p).1=p.1
   split <;> rfl
  rw[e];exact hn
end
end Pc
namespace L2.RvR
open PySem PySem.Spec PySem.Calls PyProof.Rows
end L2.RvR
namespace L2
open PySem PySem.Spec PyProof.Rows RvR
noncomputable def Itd (n:Nat):It:=⟨λi _=>i < n,λi H x H'=>H'=H∧x=.int ((n:Int) - 1 - (i:Int)),λi _=>n≤i⟩
theorem Im {P:Program} {w:World} {K:PySem.W.Frag} {tg:Expr} (it:Addr) (n:Nat):Turn P w K tg (Itd n) [it] it (λi h=>IsRangeIter h it ((n:Int) - 1+(i:Nat)*(-1)) ((n:Int) - (i:Nat)) (-1)) where
 mem:=by simp
 obj:=λi h st b hb=>by
  have e:b=it:=by simpa using hb
  subst e;exact ⟨_,st,λv z=>nomatch (show Data.fields _=Data.cell v from z)⟩
 keep:=λi h h' st k=>k it (by simp) _ st
 item:=by
  intro X hP hw hK hc i pins s σ H E I hf st hg;subst hP hw hK;obtain ⟨f0,f1,f2,f3,f4,f5⟩:=hf it (by simp);refine (Walks.range (prog:=X.prog) (w:=X.w) (I.ok.hd hc) it ((n:Int) - 1) (-1) n).item i s _ _ hg st λv h' tk hv st' kk=>?_;obtain ⟨t,rfl⟩:=hv;have I1:Inv X pins σ H { s with heap:=h',toks:=tk }:=I.turned (λb o hb e=>kk b o (by simpa using hb) e) f0 f1 f3 f4 f5;refine ⟨_,rfl,Cb (s:={ s with heap:=h',toks:=tk }) (n:="range_iterator") st' rfl rfl (by decide) ⟨.int ((n:Int) - 1 - (i:Int)),H,I1,⟨t,?_⟩,⟨rfl,rfl⟩,st',λb hb=>(hf b hb).1⟩⟩;congr 1
  omega
 done:=by
  intro X hP hw hK hc i pins s σ H E I hf st hg;subst hP hw hK;obtain ⟨f0,f1,f2,f3,f4,f5⟩:=hf it (by simp);have hg:n≤i:=hg;exact wpAny_pyNext_range_end (I.ok.hd hc) st (by omega) λh' eb=>⟨rfl,I.turned (t':=s.toks) (λb o hb e=>eb b o hb e) f0 f1 f3 f4 f5⟩
 self:=λ_ _ _ _ _ st h=>wpAny_pyIter_rangeiter st h
end L2
namespace L2
open PySem PySem.Spec PyProof.Rows
end L2
namespace Pc
open PySem PySem.Spec L2 PyProof.Rows
noncomputable abbrev plV (q:Nat):V:=V.int ((q:Nat):Int)
noncomputable def g9:V:=.str (Str.ofString "any")
noncomputable def gm:V:=.str (Str.ofString "var")
noncomputable def lN:Str:=Str.ofString "n"
noncomputable def lV:Str:=Str.ofString "v"
noncomputable def lH:Str:=Str.ofString "h"
noncomputable def lO:Str:=Str.ofString ""
noncomputable def br (kinds:List Str) (v:V):Str:=if v=g9 then lN else if v=gm then lV else if inV v (kinds.map V.str)=true then lH else lO
noncomputable def isStr:V→Bool
 | .str _=>true
 | _=>false
noncomputable def lies (l:Str) (v x:V):Bool:=if l=lH then true else if l=lN then !isStr x else if l=lV then isStr x&&decide (arV x=0) else decide (v=x)
def ky (K:PySem.W.Frag):Sp:=λvs H Q _=>∃(v:V) (kt:Addr) (kinds:List Str),vs=[v,.ref kt]∧isW v∧SqT K H kt (kinds.map V.str)∧Q (.str (br kinds v)) H
def Er:Sp:=λvs H Q _=>∃(l:Str) (v x:V),vs=[.str l,v,x]∧isW v∧isW x∧Q (.bl (lies l v x)) H
theorem isW.sc {v:V} (h:isW v) (z:Str):scal v (.str z)=true:=by
 obtain ⟨k,rfl⟩:=h;cases k <;> rfl
theorem isW.sc2 {v x:V} (h:isW v) (g:isW x):scal v x=true:=by
 obtain ⟨k,rfl⟩:=h;obtain ⟨m,rfl⟩:=g;cases k <;> cases m <;> rfl
theorem isW.flat {v:V} (h:isW v):il v=true:=by
 obtain ⟨k,rfl⟩:=h;exact yl k
structure Und where
 hs:List Nat
 ns:List V
 vs:List V
noncomputable def Und.put (u:Und) (l:Str) (p:Nat) (x:V):Und:=if l=lH then ⟨u.hs++[p],u.ns,u.vs⟩ else if l=lN then ⟨u.hs,u.ns++[x],u.vs⟩ else if l=lV then ⟨u.hs,u.ns,u.vs++[x]⟩ else u
noncomputable def endAt (ws:List V) (p:Nat):Nat:=p+(eat 1 ((ws.drop p).map arV)).getD 0
noncomputable def bo (kinds:List Str) (ws:List V):List V→Nat→Und→Option Und
 | [],_,u=>some u
 | v::r,p,u=>if lies (br kinds v) v (ws.getD p .non)=true then bo kinds ws r (if br kinds v=lH then endAt ws p else p+1) (u.put (br kinds v) p (ws.getD p .non)) else none
def qj (H:Hp) (t:Addr) (u:Und):Prop:=∃t1 t2 t3:Addr,H t=some (.tup [.ref t1,.ref t2,.ref t3])∧H t1=some (.tup (u.hs.map plV))∧H t2=some (.tup u.ns)∧H t3=some (.tup u.vs)
structure UndOk (u:Und):Prop where
 n:(∀v∈u.ns,isW v)∧u.ns.length≤1000
 v:(∀v∈u.vs,isW v)∧u.vs.length≤1000
 h:u.hs.length≤1000
theorem qj.same {H H':Hp} {t:Addr} {u:Und} (h:qj H t u) (s:ah H H'):qj H' t u:=by
 obtain ⟨t1,t2,t3,h1,h2,h3,h4⟩:=h;exact ⟨t1,t2,t3,s _ _ h1,s _ _ h2,s _ _ h3,s _ _ h4⟩
def Dr (u:Und):Prop:=(∀v∈u.ns,isW v)∧∀v∈u.vs,isW v
theorem Dr.put {u:Und} (h:Dr u) {x:V} (hx:isW x) (l:Str) (p:Nat):Dr (u.put l p x):=by
 unfold Und.put;have ap:∀{L:List V},(∀v∈L,isW v)→∀v∈L++[x],isW v:=λ{L} hL v hv=>by
  rcases List.mem_append.mp hv with g | g
  ·exact hL v g
  ·rw[List.mem_singleton.mp g];exact hx
 by_cases c1:l=lH
 ·rw[if_pos c1];exact h
 rw[if_neg c1];by_cases c2:l=lN
 ·rw[if_pos c2];exact ⟨ap h.1,h.2⟩
 rw[if_neg c2];by_cases c3:l=lV
 ·rw[if_pos c3];exact ⟨h.1,ap h.2⟩
 rw[if_neg c3];exact h
def Kinds (kinds:List Str):Prop:=∀z∈kinds,arS z=0∧V.str z≠g9∧V.str z≠gm
def told (r:Option Und) (H':Hp) (Q:VK):Prop:=match r with
 | none=>Q .non H'
 | some u=>∀(t:Addr) (H2:Hp),ah H' H2→qj H2 t u→UndOk u→Q (.ref t) H2
theorem pj {H':Hp} {Q:VK} (h:Q .non H'):told none H' Q:=h
def zz (K:PySem.W.Frag):Sp:=λvs H Q _=>∃(st kt wt:Addr) (sh:List V) (kinds:List Str) (ws:List V) (p n:Nat),vs=[.ref st,.ref kt,.ref wt,.int (p:Int)]∧SqT K H st sh∧SqT K H kt (kinds.map V.str)∧SqT K H wt ws∧Kinds kinds∧(∀v∈sh,isW v)∧(∀v∈ws,isW v)∧isTerm sh∧eat 1 ((ws.drop p).map arV)=some n∧sh.length≤1000∧ws.length≤1000∧∀H',ah H H'→told (bo kinds ws sh p ⟨[],[],[]⟩) H' Q
theorem dv {kinds:List Str} {v:V} (hv:isW v):(v=g9∧br kinds v=lN)∨(v=gm∧br kinds v=lV)∨((∃z∈kinds,v=.str z)∧br kinds v=lH)∨(br kinds v=lO∧inV v (kinds.map V.str)=false):=by
 unfold br;by_cases h1:v=g9
 ·exact .inl ⟨h1,if_pos h1⟩
 by_cases h2:v=gm
 ·exact .inr (.inl ⟨h2,by rw[if_neg h1,if_pos h2]⟩)
 cases h3:inV v (kinds.map V.str) with
 | true=>
  refine .inr (.inr (.inl ⟨?_,by rw[if_neg h1,if_neg h2,if_pos rfl]⟩));obtain ⟨k,rfl⟩:=hv;cases k with
  | inl i=>
   exfalso
   clear h1 h2;induction kinds with
   | nil=>cases h3
   | cons z r ih=>exact ih h3
  | inr z=>
   obtain ⟨y,hy,e⟩:=List.mem_map.mp (jj h3);exact ⟨y,hy,e.symm⟩
 | false=>exact .inr (.inr (.inr ⟨by rw[if_neg h1,if_neg h2,if_neg (by decide)],rfl⟩))
theorem oj:arV g9=0:=by decide+kernel
theorem qb:arV gm=0:=by decide+kernel
theorem lets:lN≠lH∧lV≠lH∧lO≠lH∧lV≠lN∧lO≠lN∧lO≠lV:=by decide+kernel
theorem gr {kinds:List Str} {ws r:List V} {v x:V} {q d m:Nat} (hk:Kinds kinds) (hv:isW v) (hx:ws[q]?=some x) (hxw:isW x) (hp:pend (d+1) (arV v::r.map arV)=some 0) (he:eat (d+1) ((ws.drop q).map arV)=some m)
  (hl:lies (br kinds v) v x=true):∃d' m',pend d' (r.map arV)=some 0∧eat d' ((ws.drop (if br kinds v=lH then endAt ws q else q+1)).map arV)=some m':=by
 have hq:q < ws.length:=(List.getElem?_eq_some_iff.mp hx).1;have ed:ws.drop q=x::ws.drop (q+1):=by
  rw[aax hq];congr 1
  rw[aa0 hq] at hx;exact aa3 hx
 obtain ⟨e1,e2,e3,e4,e5,e6⟩:=lets;have hp:pend (d+arV v) (r.map arV)=some 0:=hp;have one:arV v=arV x→br kinds v≠lH→∃d' m',pend d' (r.map arV)=some 0∧eat d' ((ws.drop (if br kinds v=lH then endAt ws q else q+1)).map arV)=some m':=λh n=>by
  rw[if_neg n];rw[ed,aaw,dm] at he;obtain ⟨k,hk',_⟩:=Option.map_eq_some_iff.mp he;exact ⟨d+arV v,k,hp,by rw[h];exact hk'⟩
 unfold lies at hl;rcases dv (kinds:=kinds) hv with ⟨rfl,h⟩ | ⟨rfl,h⟩ | ⟨⟨z,hz,rfl⟩,h⟩ | ⟨h,_⟩
 ·refine one ?_ (by rw[h];exact e1);rw[h,if_neg e1,if_pos rfl] at hl;rw[oj];obtain ⟨k,rfl⟩:=hxw;cases k with
  | inl i=>rfl
  | inr y=>cases hl
 ·refine one ?_ (by rw[h];exact e2);rw[h,if_neg e2,if_neg e4,if_pos rfl,acd] at hl;rw[qb];exact (of_decide_eq_true hl.2).symm
 ·rw[if_pos h];have a0:arV (.str z)=0:=(hk z hz).1;rw[a0] at hp;rw[show d+1=1+d by omega,sf] at he;cases h1:eat 1 ((ws.drop q).map arV) with
  | none=>rw[h1] at he;cases he
  | some n=>
   rw[h1] at he;obtain ⟨k,hk',_⟩:=Option.map_eq_some_iff.mp (show (eat d (((ws.drop q).map arV).drop n)).map (n+·)=some m from he);refine ⟨d,k,hp,?_⟩;unfold endAt;rw[h1,show (some n).getD 0=n from rfl,←adl];rw[←ac7] at hk';exact hk'
 ·refine one ?_ (by rw[h];exact e3);rw[h,if_neg e3,if_neg e5,if_neg e6] at hl;rw[of_decide_eq_true hl]
theorem fz {kinds:List Str} {ws:List V} {v:V} {r:List V} {p:Nat} {u:Und}:bo kinds ws (v::r) p u=if lies (br kinds v) v (ws.getD p .non)=true then bo kinds ws r (if br kinds v=lH then endAt ws p else p+1) (u.put (br kinds v) p (ws.getD p .non)) else none:=rfl
def UAt (H:Hp) (u0 l1 l2 l3:Addr) (u:Und):Prop:=H u0=some (.dK [(Sum.inr lH,.ref l1),(Sum.inr lN,.ref l2),(Sum.inr lV,.ref l3)])∧H l1=some (.lst (u.hs.map plV))∧H l2=some (.lst u.ns)∧H l3=some (.lst u.vs)
theorem UAt.same {H H':Hp} {u0 l1 l2 l3:Addr} {u:Und} (h:UAt H u0 l1 l2 l3 u) (s:ah H H'):UAt H' u0 l1 l2 l3 u:=⟨s _ _ h.1,s _ _ h.2.1,s _ _ h.2.2.1,s _ _ h.2.2.2⟩
theorem Und.F7 (u:Und) (l:Str) (p:Nat) (x:V) {i:Nat} (h:u.hs.length≤i∧u.ns.length≤i∧u.vs.length≤i):(u.put l p x).hs.length≤i+1∧(u.put l p x).ns.length≤i+1∧(u.put l p x).vs.length≤i+1:=by
 obtain ⟨h1,h2,h3⟩:=h;unfold Und.put;by_cases c1:l=lH
 ·rw[if_pos c1];refine ⟨?_,by show u.ns.length≤_;omega,by show u.vs.length≤_;omega⟩;show (u.hs++[p]).length≤_
  rw[aa2,aac];omega
 rw[if_neg c1];by_cases c2:l=lN
 ·rw[if_pos c2];refine ⟨by show u.hs.length≤_;omega,?_,by show u.vs.length≤_;omega⟩;show (u.ns++[x]).length≤_
  rw[aa2,aac];omega
 rw[if_neg c2];by_cases c3:l=lV
 ·rw[if_pos c3];refine ⟨by show u.hs.length≤_;omega,by show u.ns.length≤_;omega,?_⟩;show (u.vs++[x]).length≤_
  rw[aa2,aac];omega
 rw[if_neg c3];exact ⟨by omega,by omega,by omega⟩
theorem UAt.get1 {H:Hp} {u0 l1 l2 l3:Addr} {u:Und} (h:UAt H u0 l1 l2 l3 u):jv H u0 (.str lH) (some (.ref l1)):=.inl ⟨_,.inr lH,.inl h.1,rfl,rfl⟩
theorem UAt.get2 {H:Hp} {u0 l1 l2 l3:Addr} {u:Und} (h:UAt H u0 l1 l2 l3 u):jv H u0 (.str lN) (some (.ref l2)):=.inl ⟨_,.inr lN,.inl h.1,rfl,rfl⟩
theorem UAt.get3 {H:Hp} {u0 l1 l2 l3:Addr} {u:Und} (h:UAt H u0 l1 l2 l3 u):jv H u0 (.str lV) (some (.ref l3)):=.inl ⟨_,.inr lV,.inl h.1,rfl,rfl⟩
theorem UAt.put1 {H:Hp} {u0 l1 l2 l3:Addr} {u:Und} (h:UAt H u0 l1 l2 l3 u) (n10:l1≠u0) (n21:l2≠l1) (n31:l3≠l1) (p:Nat) (x:V):UAt (upd H l1 (.lst (u.hs.map plV++[plV p]))) u0 l1 l2 l3 (u.put lH p x):=by
 unfold Und.put;rw[if_pos rfl];refine ⟨by rw[ag n10.symm];exact h.1,?_,by rw[ag n21];exact h.2.2.1,by rw[ag n31];exact h.2.2.2⟩;rw[ae,aa6];rfl
theorem UAt.put2 {H:Hp} {u0 l1 l2 l3:Addr} {u:Und} (h:UAt H u0 l1 l2 l3 u) (n20:l2≠u0) (n21:l2≠l1) (n32:l3≠l2) (p:Nat) (x:V):UAt (upd H l2 (.lst (u.ns++[x]))) u0 l1 l2 l3 (u.put lN p x):=by
 unfold Und.put;rw[if_neg lets.1,if_pos rfl];exact ⟨by rw[ag n20.symm];exact h.1,by rw[ag n21.symm];exact h.2.1,ae,by rw[ag n32];exact h.2.2.2⟩
theorem UAt.put3 {H:Hp} {u0 l1 l2 l3:Addr} {u:Und} (h:UAt H u0 l1 l2 l3 u) (n30:l3≠u0) (n31:l3≠l1) (n32:l3≠l2) (p:Nat) (x:V):UAt (upd H l3 (.lst (u.vs++[x]))) u0 l1 l2 l3 (u.put lV p x):=by
 unfold Und.put;rw[if_neg lets.2.1,if_neg lets.2.2.2.1,if_pos rfl];exact ⟨by rw[ag n30.symm];exact h.1,by rw[ag n31.symm];exact h.2.1,by rw[ag n32.symm];exact h.2.2.1,ae⟩
theorem Und.put0 (u:Und) (p:Nat) (x:V):u.put lO p x=u:=by
 unfold Und.put;rw[if_neg lets.2.2.1,if_neg lets.2.2.2.2.1,if_neg lets.2.2.2.2.2]
theorem Fx {r:List Nat} {d m:Nat} (h:eat (d+1) r=some m):∃n,eat 1 r=some n:=by
 rw[show d+1=1+d by omega,sf] at h;cases h1:eat 1 r with
 | none=>rw[h1] at h;cases h
 | some n=>exact ⟨n,rfl⟩
structure Rl where
 name:Str
 kind:Str
 price:Int
 shape:List V
def gj (H:Hp) (a:Addr) (r:Rl):Prop:=∃(sa da:Addr) (ds:List V),H a=some (.tup [.str r.name,.str r.kind,.int r.price,.ref sa,.ref da])∧H sa=some (.tup r.shape)∧H da=some (.tup ds)
theorem gj.same {H H':Hp} {a:Addr} {r:Rl} (h:gj H a r) (s:ah H H'):gj H' a r:=by
 obtain ⟨sa,da,ds,h1,h2,h3⟩:=h;exact ⟨sa,da,ds,s _ _ h1,s _ _ h2,s _ _ h3⟩
def cv (H:Hp) (ra:List Addr) (rs:List Rl):Prop:=ra.length=rs.length∧∀(i:Nat) (r:Rl),rs[i]?=some r→∃a,ra[i]?=some a∧gj H a r
theorem cv.same {H H':Hp} {ra:List Addr} {rs:List Rl} (h:cv H ra rs) (s:ah H H'):cv H' ra rs:=⟨h.1,λi r hr=>by
 obtain ⟨a,h1,h2⟩:=h.2 i r hr;exact ⟨a,h1,h2.same s⟩⟩
def bh (H:Hp) (b:Addr) (kinds:List Str) (rs:List Rl):Prop:=∃(kt rt:Addr) (ra:List Addr),H b=some (.tup [.ref kt,.ref rt])∧H kt=some (.tup (kinds.map V.str))∧H rt=some (.tup (ra.map V.ref))∧cv H ra rs
theorem bh.same {H H':Hp} {b:Addr} {kinds:List Str} {rs:List Rl} (h:bh H b kinds rs) (s:ah H H'):bh H' b kinds rs:=by
 obtain ⟨kt,rt,ra,h1,h2,h3,h4⟩:=h;exact ⟨kt,rt,ra,s _ _ h1,s _ _ h2,s _ _ h3,h4.same s⟩
structure Bk (kinds:List Str) (rs:List Rl):Prop where
 kd:Kinds kinds
 nd:(rs.map (·.name)).Nodup
 sh:∀r∈rs,(∀v∈r.shape,isW v)∧isTerm r.shape∧r.shape.length≤100
 len:rs.length≤100
 kn:kinds.Nodup
 kl:kinds.length≤8
 pr:∀r∈rs,1≤r.price
 rk:∀r∈rs,r.kind∈kinds
structure Tw (ws:List V):Prop where
 w:∀v∈ws,isW v∧v≠g9∧v≠gm
 one:isTerm ws
 len:ws.length≤1000
theorem Tw.eat {ws:List V} (h:Tw ws) {p:Nat} (hp:p < ws.length):∃n,eat 1 ((ws.drop p).map arV)=some n:=by
 obtain ⟨m,hm⟩:=xm _ 1 h.one p;rw[←ac7] at hm;have hpos:=Mf hm (by intro e;have:=congrArg ad7 e;rw[aa1,aan] at this;simp at this;omega);obtain ⟨d,rfl⟩:∃d,m=d+1:=⟨m - 1,by omega⟩;exact Fx (qx _ _ hm)
theorem Bk.name {kinds:List Str} {rs:List Rl} (h:Bk kinds rs) {i j:Nat} {r r':Rl} (hi:rs[i]?=some r) (hj:rs[j]?=some r') (e:r'.name=r.name):i=j:=by
 have h1:(rs.map (·.name))[i]?=some r.name:=by rw[aaa,hi];rfl
 have h2:(rs.map (·.name))[j]?=some r.name:=by rw[aaa,hj,←e];rfl
 obtain ⟨a1,b1⟩:=List.getElem?_eq_some_iff.mp h1;obtain ⟨a2,b2⟩:=List.getElem?_eq_some_iff.mp h2;exact (adx h.nd).mp (b1.trans b2.symm)
def Dy (K:PySem.W.Frag):Sp:=λvs H Q _=>∃(t:Addr) (ws:List V),vs=[.ref t]∧SqT K H t ws∧(∀v∈ws,isW v)∧isTerm ws∧ws.length≤1000∧∀(l:Addr) (H':Hp),ah H H'→H l=none→H' l=some (.lst ((aaq ws.length).map λq=>plV (endAt ws q)))→Q (.ref l) H'
def rh (K:PySem.W.Frag):Sp:=λvs H Q _=>∃(st kt wt et:Addr) (sh:List V) (kinds:List Str) (ws:List V) (p:Nat),vs=[.ref kt,.ref st,.ref wt,.ref et,.int (p:Int)]∧SqT K H st sh∧SqT K H kt (kinds.map V.str)∧SqT K H wt ws∧H et=some (.lst ((aaq ws.length).map λq=>plV (endAt ws q)))∧Kinds kinds∧(∀v∈sh,isW v)∧isTerm sh∧sh.length≤1000∧Tw ws∧p < ws.length∧∀H',ah H H'→told (bo kinds ws sh p ⟨[],[],[]⟩) H' Q
noncomputable def ub (ws:List V) (p:Nat):List Nat:=starts p ((ws.map arV).drop p)++[ws.length]
theorem Ng (ws:List V):ub ws ws.length=[ws.length]:=by
 unfold ub;rw[ac2 (by rw[aa1];exact aa4 _)];rfl
theorem O9 {ws:List V} (h:isTerm ws) {p:Nat} {x:V} (hx:ws[p]?=some x):ub ws p=p::(ub ws (p+1)).drop (arV x)∧∃t,(ub ws (p+1)).drop (arV x)=endAt ws p::t:=by
 have hp:p < ws.length:=(List.getElem?_eq_some_iff.mp hx).1;obtain ⟨m,hm⟩:=Dj h hx;have Sl:=uf _ _ (p+1) hm;rw[ac7] at Sl hm;have ea:(ws.map arV).getD p 0=arV x:=by rw[aae,aaa,hx];rfl
 have hst:=Hm (ws.map arV) p (by rw[aa1];exact hp);rw[ea] at hst;obtain ⟨n,hn,_⟩:=vn _ (arV x) m (by rw[adz];exact hm);have hd:=qk _ _ _ (p+1) hn;have hle:=qd _ _ _ hn;have ed:(ws.drop p).map arV=arV x::(ws.map arV).drop (p+1):=by
  rw[aax hp,aaw,ac7];rw[aa0 hp] at hx;rw[aa3 hx]
 have en:endAt ws p=p+1+n:=by
  unfold endAt;rw[ed,dm,ack,hn];show p+(n+1)=_
  omega
 unfold ub;rw[hst,List.drop_append_of_le_length (by omega),hd];refine ⟨rfl,?_⟩;rw[adl];rw[aan,aa1] at hle;by_cases c:p+1+n < ws.length
 ·obtain ⟨t,ht⟩:=qw ((ws.map arV).drop (p+1+n)) (p+1+n) (by intro e;have:=congrArg ad7 e;rw[aan,aa1] at this;simp at this;omega);exact ⟨t++[ws.length],by rw[ht,en];rfl⟩
 ·refine ⟨[],?_⟩;rw[ac2 (by rw[aa1];omega),en,show p+1+n=ws.length by omega];rfl
theorem zy {x:V} (hx:isW x):(inV x [V.str "add",V.str "sub",V.str "mul",V.str "neg"]=true)↔0 < arV x:=by
 obtain ⟨k,rfl⟩:=hx;cases k with
 | inl i=>
  constructor
  ·intro h;exact absurd h (by simp[inV,eqV,kV])
  ·intro h;exact absurd h (by show ¬(0 < 0);decide)
 | inr z=>
  show (inV (.str z) _=true)↔0 < arS z
  constructor
  ·intro h;have:=jj h;simp only[aal,aa8,or_false,V.str.injEq] at this;rcases this with rfl | rfl | rfl | rfl <;> decide+kernel
  ·intro h;rcases qh (z:=z) h with rfl | rfl | rfl | rfl <;> decide+kernel
theorem Hi (ws:List V) {p:Nat} (hp:p≤ws.length):∃t,ub ws p=p::t:=by
 unfold ub;by_cases c:p < ws.length
 ·obtain ⟨t,ht⟩:=qw ((ws.map arV).drop p) p (by intro e;have:=congrArg ad7 e;rw[aan,aa1] at this;simp at this;omega);exact ⟨t++[ws.length],by rw[ht];rfl⟩
 ·refine ⟨[],?_⟩;rw[ac2 (by rw[aa1];omega),show p=ws.length by omega];rfl
theorem Rb {n p:Nat} (h:p < n):ixN n (p:Int)=some p:=by
 unfold ixN;rw[if_pos (by omega),if_pos (by omega),ac8]
theorem Kr {p:Nat} {x:V} {L:List V}:(aak (p+1) (V.int 0)++L).set p x=aak p (V.int 0)++x::L:=by
 rw[List.replicate_succ',abo,List.set_append_right _ _ (by rw[abb];exact aa4 _),abb,acx];rfl
theorem xt:∀(r:List Nat) (p:Nat),(starts p r).length≤r.length
 | [],_=>aa4 _
 | a::r,p=>by
  show (p::(starts (p+1) r).drop a).length≤_
  have:=xt r (p+1);rw[aai,aan,aai];omega
theorem Jh (ws:List V) (p:Nat):(ub ws p).length≤ws.length+1:=by
 unfold ub;have:=xt ((ws.map arV).drop p) p;rw[aan,aa1] at this;rw[aa2,aac];omega
def l7 (H:Hp) (u0 l1 l2 l3:Addr) (u:Und):Prop:=H u0=some (.lst [.ref l1,.ref l2,.ref l3])∧H l1=some (.lst (u.hs.map plV))∧H l2=some (.lst u.ns)∧H l3=some (.lst u.vs)
theorem l7.same {H H':Hp} {u0 l1 l2 l3:Addr} {u:Und} (h:l7 H u0 l1 l2 l3 u) (s:ah H H'):l7 H' u0 l1 l2 l3 u:=⟨s _ _ h.1,s _ _ h.2.1,s _ _ h.2.2.1,s _ _ h.2.2.2⟩
theorem l7.put1 {H:Hp} {u0 l1 l2 l3:Addr} {u:Und} (h:l7 H u0 l1 l2 l3 u) (n10:u0≠l1) (n21:l2≠l1) (n31:l3≠l1) (p:Nat) (x:V):l7 (upd H l1 (.lst (u.hs.map plV++[plV p]))) u0 l1 l2 l3 (u.put lH p x):=by
 unfold Und.put;rw[if_pos rfl];refine ⟨by rw[ag n10];exact h.1,?_,by rw[ag n21];exact h.2.2.1,by rw[ag n31];exact h.2.2.2⟩;rw[ae,aa6];rfl
theorem l7.put2 {H:Hp} {u0 l1 l2 l3:Addr} {u:Und} (h:l7 H u0 l1 l2 l3 u) (n20:u0≠l2) (n21:l2≠l1) (n32:l3≠l2) (p:Nat) (x:V):l7 (upd H l2 (.lst (u.ns++[x]))) u0 l1 l2 l3 (u.put lN p x):=by
 unfold Und.put;rw[if_neg lets.1,if_pos rfl];exact ⟨by rw[ag n20];exact h.1,by rw[ag n21.symm];exact h.2.1,ae,by rw[ag n32];exact h.2.2.2⟩
theorem l7.put3 {H:Hp} {u0 l1 l2 l3:Addr} {u:Und} (h:l7 H u0 l1 l2 l3 u) (n30:u0≠l3) (n31:l3≠l1) (n32:l3≠l2) (p:Nat) (x:V):l7 (upd H l3 (.lst (u.vs++[x]))) u0 l1 l2 l3 (u.put lV p x):=by
 unfold Und.put;rw[if_neg lets.2.1,if_neg lets.2.2.2.1,if_pos rfl];exact ⟨by rw[ag n30];exact h.1,by rw[ag n31.symm];exact h.2.1,by rw[ag n32.symm];exact h.2.2.1,ae⟩
theorem Kinds.out {kinds:List Str} (h:Kinds kinds) {z:Str} (hz:V.str z=g9∨V.str z=gm):inV (.str z) (kinds.map V.str)=false:=by
 cases e:inV (.str z) (kinds.map V.str) with
 | false=>rfl
 | true=>
  obtain ⟨y,hy,e2⟩:=List.mem_map.mp (jj e);obtain ⟨_,h1,h2⟩:=h y hy;rcases hz with hz | hz
  ·exact absurd (e2.trans hz) h1
  ·exact absurd (e2.trans hz) h2
theorem letH {kinds:List Str} {v:V} (h:br kinds v=lH):inV v (kinds.map V.str)=true:=by
 unfold br at h;obtain ⟨b1,b2,b3,_,_,_⟩:=lets;by_cases h1:v=g9
 ·rw[if_pos h1] at h;exact absurd h b1
 by_cases h2:v=gm
 ·rw[if_neg h1,if_pos h2] at h;exact absurd h b2
 rw[if_neg h1,if_neg h2] at h;cases e:inV v (kinds.map V.str) with
 | true=>rfl
 | false=>rw[e,if_neg (by decide)] at h;exact absurd h b3
theorem letO {kinds:List Str} {v:V} (h:br kinds v=lO):v≠g9∧v≠gm:=by
 obtain ⟨_,_,_,_,b5,b6⟩:=lets;unfold br at h;refine ⟨λe=>?_,λe=>?_⟩
 ·rw[if_pos e] at h;exact b5 h.symm
 ·subst e;by_cases h1:gm=g9
  ·rw[if_pos h1] at h;exact b5 h.symm
  ·rw[if_neg h1,if_pos rfl] at h;exact b6 h.symm
def nmOk (z:Str):Prop:=arS z=0∧V.str z≠g9∧V.str z≠gm
def cx (H:Hp) (l:Addr) (zs:List Str):Prop:=H l=some (.lst (zs.map V.str))∧zs.length=60∧zs.Nodup∧∀z∈zs,nmOk z
theorem cx.same {H H':Hp} {l:Addr} {zs:List Str} (h:cx H l zs) (s:ah H H'):cx H' l zs:=⟨s _ _ h.1,h.2⟩
theorem cx.lj {H H':Hp} {d b l:Addr} {ns:List Int} {n:Nat} {zs:List Str} (h:cx H l zs) (hD:fq H d b ns n) (s:ao d H H'):cx H' l zs:=by
 refine ⟨s _ _ (gx h.1 hD.1 ?_) h.1,h.2⟩;intro e;have:=h.2.1;cases zs with
 | nil=>cases this
 | cons z r=>
  have e:HO.lst (V.str z::r.map V.str)=HO.lst _:=e;cases e
def twW (v:V):Prop:=isW v∧v≠g9∧v≠gm
theorem twW_int (i:Int):twW (.int i):=⟨⟨Sum.inl i,rfl⟩,(λe=>nomatch e),λe=>nomatch e⟩
theorem twW_name {z:Str} (h:nmOk z):twW (.str z):=⟨⟨Sum.inr z,rfl⟩,h.2⟩
theorem twW_op {z:Str} (h:0 < arS z):twW (.str z):=⟨⟨Sum.inr z,rfl⟩,λe=>by rw[V.str.inj (show V.str z=V.str (Str.ofString "any") from e)] at h;revert h;decide+kernel,λe=>by rw[V.str.inj (show V.str z=V.str (Str.ofString "var") from e)] at h;revert h;decide+kernel⟩
theorem nj {z:Str} {xs:List V} (h:V.str z∈xs):inV (.str z) xs=true:=List.any_eq_true.mpr ⟨_,h,by simp[eqV]⟩
def Ab:Sp:=λvs H Q _=>∃(d nl b:Addr) (ns:List Int) (zs:List Str) (m n:Nat),vs=[.ref d,.ref nl,.int (m:Int)]∧fq H d b ns n∧cx H nl zs∧1≤m∧m≤120∧n≤50000∧∀(t:Addr) (n':Nat) (H':Hp) (ws:List V),ao d H H'→H' d=some (.lst [.ref b,.int (n':Int)])→n'≤n+m→H t=none→H' t=some (.tup ws)→Tw ws→ws.length≤m→Q (.ref t) H'
structure jr (kinds:List Str) (sh:List V):Prop where
 w:∀v∈sh,isW v
 one:isTerm sh
 len:sh.length≤11
 few:(sh.filter λv=>!inV v (kinds.map V.str)).length≤5
def yp:Sp:=λvs H Q _=>∃(d kt b:Addr) (ns:List Int) (kinds:List Str) (n:Nat),vs=[.ref d,.ref kt]∧fq H d b ns n∧H kt=some (.tup (kinds.map V.str))∧Kinds kinds∧1≤kinds.length∧kinds.length≤20∧n≤50000∧∀(t:Addr) (n':Nat) (H':Hp) (sh:List V),ao d H H'→H' d=some (.lst [.ref b,.int (n':Int)])→n'≤n+12→H t=none→H' t=some (.tup sh)→jr kinds sh→Q (.ref t) H'
def zo (K:PySem.W.Frag):Sp:=λvs H Q _=>∃(kt st:Addr) (kinds:List Str) (sh:List V),vs=[.ref kt,.ref st]∧H kt=some (.tup (kinds.map V.str))∧H st=some (.tup sh)∧Kinds kinds∧jr kinds sh∧∀(t:Addr) (ds:List V) (H':Hp),ah H H'→H' t=some (.tup ds)→Q (.ref t) H'
noncomputable def isT (z:Str):Bool:=decide (z.cps.toList.head?=some 116)
noncomputable def tc (zs:List Str):Nat:=(zs.filter isT).length
theorem qi (xs ys:List Str):tc (xs++ys)=tc xs+tc ys:=by
 unfold tc;rw[abd,aa2]
noncomputable def bx (kinds:List Str) (vs:List V):Nat:=(vs.filter λv=>!inV v (kinds.map V.str)).length
theorem kq (kinds:List Str) (xs ys:List V):bx kinds (xs++ys)=bx kinds xs+bx kinds ys:=by
 unfold bx;rw[abd,aa2]
theorem t7 {kinds:List Str} (hk:Kinds kinds):∀(xs:List V) (l m:Nat),(∀v∈xs,isW v)→pend l (xs.map arV)=some m→m≤l+bx kinds xs
 | [],l,m,_,h=>by
  have:l=m:=aa3 h;omega
 | v::r,0,m,_,h=>by cases h
 | v::r,l+1,m,hw,h=>by
  have h:pend (l+arV v) (r.map arV)=some m:=h;have ih:=t7 hk r _ _ (λx hx=>hw x (aab _ hx)) h;have e:bx kinds (v::r)=bx kinds [v]+bx kinds r:=kq kinds [v] r;have a2:=tj v;rcases abl (arV v) with h0 | h0
  ·omega
  ·have:bx kinds [v]=1:=by
    unfold bx;rcases dv (kinds:=kinds) (hw v aa9) with ⟨rfl,_⟩ | ⟨rfl,_⟩ | ⟨⟨z,hz,rfl⟩,_⟩ | ⟨_,hno⟩
    ·rw[oj] at h0;cases h0
    ·rw[qb] at h0;cases h0
    ·have:=(hk z hz).1;have h0:0 < arS z:=h0;omega
    ·rw[aap,hno];rfl
   omega
theorem E4 {n:Nat} (h:n≤11):(Gw (.int (n:Int))).length≤2∧wordV (.int (n:Int)):=by
 have a:∀n:Fin 12,(Gw (.int ((n.1:Nat):Int))).length≤2:=by decide+kernel
 have b:∀n:Fin 12,(((n.1:Nat):Int)).natAbs.log2 < 1920:=by decide+kernel
 exact ⟨a ⟨n,by omega⟩,b ⟨n,by omega⟩⟩
structure DI (kinds:List Str) (sh:List V) (p:Nat) (zs fs:List Str):Prop where
 pd:pend zs.length ((sh.drop p).map arV)=some 0
 bf:pend 1 ((sh.take p).map arV)=some zs.length
 three:fs.length+tc zs=3
 un:tc zs≤bx kinds (sh.drop p)
 zl:∀z∈zs,1≤z.length∧z.length≤100
 fl:∀z∈fs,isT z=true∧1≤z.length∧z.length≤100
theorem DI.start {kinds:List Str} {sh:List V} (h:jr kinds sh):DI kinds sh sh.length [] [Str.ofString "t3",Str.ofString "t2",Str.ofString "t1"]:=by
 refine ⟨by rw[ac1];rfl,by rw[abj];exact h.one,rfl,aa7 _,(λ_ h=>nomatch h),λz hz=>?_⟩;simp only[aal,aa8,or_false] at hz;rcases hz with rfl | rfl | rfl <;> decide+kernel
theorem DI.less {kinds:List Str} {sh:List V} {p:Nat} {zs fs:List Str} (h:DI kinds sh (p+1) zs fs) {v:V} (hv:sh[p]?=some v):arV v≤zs.length∧pend (zs.length - arV v+1) ((sh.drop p).map arV)=some 0∧pend 1 ((sh.take p).map arV)=some (zs.length - arV v+1)∧sh.drop p=v::sh.drop (p+1):=by
 have hp:p < sh.length:=(List.getElem?_eq_some_iff.mp hv).1;have ed:sh.drop p=v::sh.drop (p+1):=by
  rw[aax hp];congr 1
  rw[aa0 hp] at hv;exact aa3 hv
 have et:sh.take (p+1)=sh.take p++[v]:=by rw[ab4,hv];rfl
 have bf:=h.bf;rw[et,aa6,m7] at bf;cases hq:pend 1 ((sh.take p).map arV) with
 | none=>rw[hq] at bf;cases bf
 | some m=>
  rw[hq] at bf;have bf:pend m [arV v]=some zs.length:=bf;cases m with
  | zero=>cases bf
  | succ m=>
   rw[Cr _ _ (Nat.succ_pos _)] at bf;have e:=aa3 bf;have hm:m+1=zs.length - arV v+1:=by omega
   refine ⟨by omega,?_,by rw[hm],ed⟩;rw[ed,aaw];show pend (zs.length - arV v+arV v) ((sh.drop (p+1)).map arV)=some 0
   rw[show zs.length - arV v+arV v=zs.length by omega];exact h.pd
theorem DI.hole {kinds:List Str} {sh:List V} {p:Nat} {zs fs:List Str} (h:DI kinds sh (p+1) zs fs) {v:V} (hv:sh[p]?=some v) (a0:arV v=0) {z:Str} (hz:isT z=false) (hl:1≤z.length∧z.length≤100):DI kinds sh p (zs++[z]) fs:=by
 obtain ⟨_,h2,h3,ed⟩:=h.less hv;rw[a0,ace] at h2 h3;have tz:tc (zs++[z])=tc zs:=by
  rw[qi];unfold tc;rw[aap,hz];rfl
 refine ⟨by rw[aa2];exact h2,by rw[aa2];exact h3,by rw[tz];exact h.three,?_,λy hy=>?_,h.fl⟩
 ·rw[tz,ed];have:=kq kinds [v] (sh.drop (p+1));have e:bx kinds (v::sh.drop (p+1))=bx kinds [v]+bx kinds (sh.drop (p+1)):=this;have:=h.un;omega
 ·rcases List.mem_append.mp hy with g | g
  ·exact h.zl y g
  ·rw[List.mem_singleton.mp g];exact hl
theorem DI.put {kinds:List Str} {sh:List V} {p:Nat} {zs fs zs0 rd:List Str} (hk:Kinds kinds) (ok:jr kinds sh) (h:DI kinds sh (p+1) zs fs) {v:V} (hv:sh[p]?=some v) (hn:inV v (kinds.map V.str)=false) (e:zs=zs0++rd) (hr:rd.length=arV v):
  (∀z fs2,fs2.length+1=fs.length+tc rd→isT z=true→1≤z.length→z.length≤100→(∀y∈fs2,isT y=true∧1≤y.length∧y.length≤100)→DI kinds sh p (zs0++[z]) fs2)∧
  (∀z fs2,fs2.length=fs.length+tc rd→isT z=false→1≤z.length→z.length≤100→(∀y∈fs2,isT y=true∧1≤y.length∧y.length≤100)→DI kinds sh p (zs0++[z]) fs2)∧(0 < p→1≤fs.length+tc rd):=by
 obtain ⟨h1,h2,h3,ed⟩:=h.less hv;subst e;rw[aa2,hr,acw] at h2 h3;have th:=h.three;have un:=h.un;rw[qi] at th un;have uv:bx kinds (sh.drop p)=1+bx kinds (sh.drop (p+1)):=by
  rw[ed];have:=kq kinds [v] (sh.drop (p+1));have e1:bx kinds [v]=1:=by
   unfold bx;rw[aap,hn];rfl
  have e:bx kinds (v::sh.drop (p+1))=bx kinds [v]+bx kinds (sh.drop (p+1)):=this;omega
 have zl0:∀y∈zs0,1≤y.length∧y.length≤100:=λy hy=>h.zl y (abv _ hy);refine ⟨λz fs2 hf hz l1 l2 hfl=>⟨by rw[aa2];exact h2,by rw[aa2];exact h3,?_,?_,λy hy=>?_,hfl⟩,λz fs2 hf hz l1 l2 hfl=>⟨by rw[aa2];exact h2,by rw[aa2];exact h3,?_,?_,λy hy=>?_,hfl⟩,λhp=>?_⟩
 ·rw[qi,show tc [z]=1 by unfold tc;rw[aap,hz];rfl];omega
 ·rw[qi,show tc [z]=1 by unfold tc;rw[aap,hz];rfl,uv];omega
 ·rcases List.mem_append.mp hy with g | g
  ·exact zl0 y g
  ·rw[List.mem_singleton.mp g];exact ⟨l1,l2⟩
 ·rw[qi,show tc [z]=0 by unfold tc;rw[aap,hz];rfl];omega
 ·rw[qi,show tc [z]=0 by unfold tc;rw[aap,hz];rfl,uv];omega
 ·rcases List.mem_append.mp hy with g | g
  ·exact zl0 y g
  ·rw[List.mem_singleton.mp g];exact ⟨l1,l2⟩
 ·have u5:=ok.few;have hs:bx kinds sh≤5:=u5;have es:bx kinds sh=bx kinds (sh.take p)+bx kinds (sh.drop p):=by
   rw[←kq,ac5]
  have pu:=t7 hk (sh.take p) 1 _ (λx hx=>ok.w x (aba hx)) h3;have tl:tc zs0≤zs0.length:=ab8 _ _;omega
theorem Qn {kinds:List Str} (hk:Kinds kinds) {v:V} (hv:isW v) (h:inV v (kinds.map V.str)=true):arV v=0:=by
 obtain ⟨b1,b2,b3,_,_,_⟩:=lets;rcases dv (kinds:=kinds) hv with ⟨rfl,_⟩ | ⟨rfl,_⟩ | ⟨⟨z,hz,rfl⟩,_⟩ | ⟨_,hno⟩
 ·exact oj
 ·exact qb
 ·exact (hk z hz).1
 ·rw[hno] at h;cases h
theorem gk (a b:Str):(a++b).cps.toList=a.cps.toList++b.cps.toList:=by
 show (a.cps++b.cps).toList=_
 exact Array.toList_append
theorem isT_h (tx:Str):isT (Str.ofString "h"++tx)=false:=by
 unfold isT;rw[gk,show (Str.ofString "h").cps.toList=[104] by decide+kernel];rfl
theorem Po:isT (Str.ofString "out")=false:=by decide+kernel
theorem Ks {z:Str} (h:1≤z.length):∃c,atI z.cps.toList 0=some c∧((V.str ⟨#[c]⟩=V.str (Str.ofString "t"))↔isT z=true):=by
 have hl:z.cps.toList.length=z.length:=rfl;cases e:z.cps.toList with
 | nil=>rw[e] at hl;simp at hl;omega
 | cons c r=>
  refine ⟨c,bg (j:=0) rfl,?_⟩;unfold isT;rw[e];have et:Str.ofString "t"=⟨#[116]⟩:=by decide+kernel
  rw[et];constructor
  ·intro h;have:(#[c]:Array Nat)=#[116]:=congrArg Str.cps (V.str.inj h);have:c=116:=by simpa using this
   subst this;rfl
  ·intro h;have:c=116:=by simpa using h
   subst this;rfl
theorem Hy {v:V} (hv:isW v):((if inV v [V.str "add",V.str "sub",V.str "mul",V.str "neg"]=true then (1:Int) else 0)+if inV v [V.str "add",V.str "sub",V.str "mul"]=true then 1 else 0)=(arV v:Int):=by
 have three:=Ci hv;have four:=zy hv;have a2:=tj v;by_cases c:0 < arV v
 ·rw[if_pos (four.mpr c)];by_cases c2:arV v=2
  ·rw[if_pos (three.mpr c2)];omega
  ·rw[if_neg λe=>c2 (three.mp e)];omega
 ·rw[if_neg λe=>c (four.mp e),if_neg λe=>by have:=three.mp e;omega];omega
def Fd:Sp:=λvs H Q _=>∃(d nl b:Addr) (ns:List Int) (zs:List Str) (n:Nat),vs=[.ref d,.ref nl]∧fq H d b ns n∧cx H nl zs∧n≤1000∧∀(bt:Addr) (n':Nat) (H':Hp) (kinds:List Str) (rs:List Rl),ao d H H'→H' d=some (.lst [.ref b,.int (n':Int)])→n'≤n+1000→bh H' bt kinds rs→Bk kinds rs→1≤rs.length→(∀r∈rs,r.name∈zs)→(∀z∈kinds,z∈zs)→Q (.ref bt) H'
def fo (H:Hp) (sa:List Addr) (kinds:List Str) (ps:List (Str×List V)):Prop:=sa.length=ps.length∧∀(i:Nat) (k:Str) (sh:List V),ps[i]?=some (k,sh)→(jr kinds sh∧k∈kinds)∧∃a s:Addr,sa[i]?=some a∧H a=some (.tup [.str k,.ref s])∧H s=some (.tup sh)
theorem fo.nil (H:Hp) (kinds:List Str):fo H [] kinds []:=⟨rfl,λi k sh h=>by simp at h⟩
theorem fo.lj {H H':Hp} {d b:Addr} {ns:List Int} {n:Nat} {sa:List Addr} {kinds:List Str} {ps:List (Str×List V)} (h:fo H sa kinds ps) (hD:fq H d b ns n) (s:ao d H H'):fo H' sa kinds ps:=⟨h.1,λi k sh hi=>by
 obtain ⟨ok,a,t,h1,h2,h3⟩:=h.2 i k sh hi;exact ⟨ok,a,t,h1,s _ _ (gx h2 hD.1 (by intro e;cases e)) h2,s _ _ (gx h3 hD.1 (by intro e;cases e)) h3⟩⟩
theorem fo.same {H H':Hp} {sa:List Addr} {kinds:List Str} {ps:List (Str×List V)} (h:fo H sa kinds ps) (s:ah H H'):fo H' sa kinds ps:=⟨h.1,λi k sh hi=>by
 obtain ⟨ok,a,t,h1,h2,h3⟩:=h.2 i k sh hi;exact ⟨ok,a,t,h1,s _ _ h2,s _ _ h3⟩⟩
theorem fo.snoc {H:Hp} {sa:List Addr} {kinds:List Str} {ps:List (Str×List V)} (h:fo H sa kinds ps) {a s:Addr} {k:Str} {sh:List V} (ok:jr kinds sh∧k∈kinds) (h1:H a=some (.tup [.str k,.ref s])) (h2:H s=some (.tup sh)):fo H (sa++[a]) kinds (ps++[(k,sh)]):=by
 refine ⟨by rw[aa2,aa2,h.1];rfl,λi k' sh' hi=>?_⟩;by_cases c:i < ps.length
 ·rw[aag c] at hi;obtain ⟨ok',a',t',g1,g2,g3⟩:=h.2 i k' sh' hi;exact ⟨ok',a',t',by rw[aag (by rw[h.1];exact c)];exact g1,g2,g3⟩
 ·rw[aad (by omega)] at hi;have hz:i - ps.length=0:=by
   rcases abl (i - ps.length) with g | g
   ·exact g
   ·rw[ab9 (by rw[aac];omega)] at hi;cases hi
  rw[hz] at hi;cases hi
  exact ⟨ok,a,s,by rw[aad (by rw[h.1];omega),h.1,hz];rfl,h1,h2⟩
theorem Ii {kinds:List Str} (hk:Kinds kinds) {z:Str} (hz:z∈kinds):jr kinds [.str z]:=by
 refine ⟨λv hv=>by rw[List.mem_singleton.mp hv];exact ⟨Sum.inr z,rfl⟩,?_,by show (1:Nat)≤11;decide,aar (ab8 _ _) (by show (1:Nat)≤5;decide)⟩;show pend 1 [arS z]=some 0
 rw[(hk z hz).1];rfl
theorem Ke (kinds:List Str):jr kinds [g9]:=⟨λv hv=>by rw[List.mem_singleton.mp hv];exact ⟨Sum.inr _,rfl⟩,by show pend 1 [arV g9]=some 0;rw[oj];rfl,by show (1:Nat)≤11;decide,aar (ab8 _ _) (by show (1:Nat)≤5;decide)⟩
theorem Jx (kinds:List Str):jr kinds [gm]:=⟨λv hv=>by rw[List.mem_singleton.mp hv];exact ⟨Sum.inr _,rfl⟩,by show pend 1 [arV gm]=some 0;rw[qb];rfl,by show (1:Nat)≤11;decide,aar (ab8 _ _) (by show (1:Nat)≤5;decide)⟩
theorem Jw {kinds:List Str} (hk:Kinds kinds) {z:Str} (hz:z∈kinds):jr kinds [.str (Str.ofString "add"),.str z,.str z]:=by
 refine ⟨λv hv=>?_,?_,by show (3:Nat)≤11;decide,aar (ab8 _ _) (by show (3:Nat)≤5;decide)⟩
 ·simp only[aal,aa8,or_false] at hv;rcases hv with rfl | rfl | rfl <;> exact ⟨Sum.inr _,rfl⟩
 ·show pend 1 [arS (Str.ofString "add"),arS z,arS z]=some 0
  rw[(hk z hz).1,show arS (Str.ofString "add")=2 by decide+kernel];rfl
theorem L3 {kinds:List Str} (hk:Kinds kinds) {z:Str} (hz:z∈kinds):jr kinds [.str (Str.ofString "neg"),.str z]:=by
 refine ⟨λv hv=>?_,?_,by show (2:Nat)≤11;decide,aar (ab8 _ _) (by show (2:Nat)≤5;decide)⟩
 ·simp only[aal,aa8,or_false] at hv;rcases hv with rfl | rfl <;> exact ⟨Sum.inr _,rfl⟩
 ·show pend 1 [arS (Str.ofString "neg"),arS z]=some 0
  rw[(hk z hz).1,show arS (Str.ofString "neg")=1 from zj];rfl
theorem gj.keep {H H':Hp} {a:Addr} {r:Rl} (h:gj H a r) (t:∀{a:Addr} {xs:List V},H a=some (.tup xs)→H' a=some (.tup xs)):gj H' a r:=by
 obtain ⟨sa,da,ds,h1,h2,h3⟩:=h;exact ⟨sa,da,ds,t h1,t h2,t h3⟩
theorem cv.keep {H H':Hp} {ra:List Addr} {rs:List Rl} (h:cv H ra rs) (t:∀{a:Addr} {xs:List V},H a=some (.tup xs)→H' a=some (.tup xs)):cv H' ra rs:=⟨h.1,λi r hr=>by
 obtain ⟨a,h1,h2⟩:=h.2 i r hr;exact ⟨a,h1,h2.keep t⟩⟩
theorem fo.keep {H H':Hp} {sa:List Addr} {kinds:List Str} {ps:List (Str×List V)} (h:fo H sa kinds ps) (t:∀{a:Addr} {xs:List V},H a=some (.tup xs)→H' a=some (.tup xs)):fo H' sa kinds ps:=⟨h.1,λi k sh hi=>by
 obtain ⟨ok,a,s,h1,h2,h3⟩:=h.2 i k sh hi;exact ⟨ok,a,s,h1,t h2,t h3⟩⟩
theorem ku {H H':Hp} {d b:Addr} {ns:List Int} {n:Nat} (hD:fq H d b ns n) (s:ao d H H') {a:Addr} {xs:List V} (h:H a=some (.tup xs)):H' a=some (.tup xs):=s _ _ (gx h hD.1 (by intro e;cases e)) h
theorem cv.snoc {H:Hp} {ra:List Addr} {rs:List Rl} (h:cv H ra rs) {a:Addr} {r:Rl} (hr:gj H a r):cv H (ra++[a]) (rs++[r]):=by
 refine ⟨by rw[aa2,aa2,h.1];rfl,λi r' hi=>?_⟩;by_cases c:i < rs.length
 ·rw[aag c] at hi;obtain ⟨a',g1,g2⟩:=h.2 i r' hi;exact ⟨a',by rw[aag (by rw[h.1];exact c)];exact g1,g2⟩
 ·rw[aad (by omega)] at hi;have hz:i - rs.length=0:=by
   rcases abl (i - rs.length) with g | g
   ·exact g
   ·rw[ab9 (by rw[aac];omega)] at hi;cases hi
  rw[hz] at hi;cases hi
  exact ⟨a,by rw[aad (by rw[h.1];omega),h.1,hz];rfl,hr⟩
theorem cv.rot {H:Hp} {ra:List Addr} {rs:List Rl} (h:cv H ra rs) (k:Nat):cv H (ra.drop k++ra.take k) (rs.drop k++rs.take k):=by
 have h1:=h.1;refine ⟨by rw[aa2,aa2,aan,aan,aav,aav,h1],λi r hi=>?_⟩;by_cases c:i < rs.length - k
 ·rw[aag (by rw[aan];exact c),adp] at hi;rw[aag (by rw[aan,h1];exact c),adp];exact h.2 _ r hi
 ·rw[aad (by rw[aan];omega),aan] at hi;rw[aad (by rw[aan,h1];omega),aan,h1];by_cases c2:i - (rs.length - k) < k
  ·rw[acb c2] at hi;rw[acb c2];exact h.2 _ r hi
  ·rw[ab9 (by rw[aav];omega)] at hi;cases hi
theorem bk_rot {kinds zs:List Str} {rs:List Rl} (hk:Kinds kinds) (kn:kinds.Nodup) (kl:kinds.length≤8) (nd:zs.Nodup) (e:rs.map (·.name)=(zs.drop 8).take rs.length) (so:∀r∈rs,jr kinds r.shape∧1≤r.price∧r.kind∈kinds) (hl:rs.length≤40) (k:Nat):Bk kinds (rs.drop k++rs.take k):=by
 have hp:(rs.drop k++rs.take k).Perm rs:=List.perm_append_comm.trans (by rw[ac5]);refine ⟨hk,(hp.map (·.name)).nodup_iff.mpr ?_,λr hr=>?_,by rw[hp.length_eq];omega,kn,kl,λr hr=>(so r (hp.mem_iff.mp hr)).2.1,λr hr=>(so r (hp.mem_iff.mp hr)).2.2⟩
 ·rw[e];exact (nd.sublist (List.drop_sublist 8 zs)).sublist (ad4 _ _)
 ·have o:=(so r (hp.mem_iff.mp hr)).1;exact ⟨o.w,o.one,by have:=o.len;omega⟩
theorem Ib {zs:List Str} {rs:List Rl} {n:Nat} (e:rs.map (·.name)=(zs.drop 8).take n) (k:Nat):∀r∈rs.drop k++rs.take k,r.name∈zs:=λr hr=>by
 have hm:r∈rs:=(List.mem_append.mp hr).elim aek aba;have h:r.name∈rs.map (·.name):=List.mem_map.mpr ⟨r,hm,rfl⟩;rw[e] at h;exact aek (aba h)
theorem Eg {zs:List Str} {rs:List Rl} {r:Rl} {i:Nat} (e:rs.map (·.name)=(zs.drop 8).take i) (hz:zs[8+i]?=some r.name):(rs++[r]).map (·.name)=(zs.drop 8).take (i+1):=by
 rw[aa6,e,ab4,adp,hz];rfl
def c4 (z:Str):Prop:=(∀c∈z.cps.toList,c < 128)∧z.length≤1000
def vg:Sp:=λvs H Q _=>∃(d b:Addr) (ns:List Int) (n:Nat),vs=[.ref d]∧fq H d b ns n∧n≤1000∧∀(l:Addr) (H':Hp) (zs:List Str),ao d H H'→H' d=some (.lst [.ref b,.int ((n+1:Nat):Int)])→cx H' l zs→(∀z∈zs,c4 z)→Q (.ref l) H'
noncomputable abbrev Cy:Str:=Str.ofString "abcdefghijklmnopqrstuvwxyz"
noncomputable def ltr (i:Int):Str:=⟨#[97+(i % 26).toNat]⟩
theorem fu (i:Int):(ltr i).cps.toList=[97+(i % 26).toNat]:=rfl
theorem dw (i:Int):(ltr i).length=1:=rfl
theorem ltr_at (i:Int):atI Cy.cps.toList (i % 26)=some (97+(i % 26).toNat):=by
 have a:∀j:Fin 26,Cy.cps.toList[j.1]?=some (97+j.1):=by decide+kernel
 obtain ⟨j,hj,e⟩:∃j:Nat,j < 26∧i % 26=(j:Int):=⟨(i % 26).toNat,by omega,by omega⟩;rw[e,ac8];exact bg (a ⟨j,hj⟩)
theorem g6 {i:Int} {H:Hp} {Q:VK} (q:Q (.str (ltr i)) H):rIxS (.str Cy) (.int (i % 26)) H Q:=
 ⟨Cy,i % 26,_,rfl,rfl,by rw[sizeLine_eq];decide+kernel,ltr_at i,q⟩
noncomputable def dj:List Str:=["add","sub","mul","neg","any","var","put","load","out"]
noncomputable def ownC:List (List Nat):=dj.map λz=>z.cps.toList
theorem ow {a b:Str} (h:a.cps.toList=b.cps.toList):a=b:=by
 cases a;cases b
 congr 1
 exact Array.toList_inj.mp h
theorem ou {z:Str}:z∈dj↔z.cps.toList∈ownC:=by
 unfold ownC;constructor
 ·exact λh=>List.mem_map.mpr ⟨z,h,rfl⟩
 ·intro h;obtain ⟨y,hy,e⟩:=List.mem_map.mp h;rw[←ow e];exact hy
theorem own_ok {z:Str} (h:z∉dj):nmOk z:=by
 refine ⟨?_,λe=>h ?_,λe=>h ?_⟩
 ·rcases abl (arS z) with g | g
  ·exact g
  ·exfalso
   apply h
   rcases qh g with rfl | rfl | rfl | rfl
   ·exact aa9
   ·exact aab _ aa9
   ·exact aab _ (aab _ aa9)
   ·exact aab _ (aab _ (aab _ aa9))
 ·rw[V.str.inj (show V.str z=V.str (Str.ofString "any") from e)];decide+kernel
 ·rw[V.str.inj (show V.str z=V.str (Str.ofString "var") from e)];decide+kernel
noncomputable def nm0 (m:Int) (tail:Str) (k:Nat):Str:=ltr (m+(k:Int))++ltr (m / 7+(k:Int) / 26)++tail
noncomputable def nm1 (m:Int) (k:Nat):Str:=dj.getD (((k:Int)+m) % 9).toNat ""++ltr (m / 9+(k:Int) / 9)
noncomputable def nm2 (m:Int) (k:Nat):Str:=lz (ltr m) (1+(k:Int) % 3).toNat++lz (ltr (m+1)) ((k:Int) / 3 % 4).toNat++ltr (m+2+(k:Int) / 12)
noncomputable def ql (m:Int):Str:=lz (ltr (m / 26)) (m / 676 % 6).toNat
noncomputable def nmX (c:Int) (k:Nat):Str:=if c % 3=2 then nm2 (c / 3) k else if c % 3=1 then nm1 (c / 3) k else nm0 (c / 3) (ql (c / 3)) k
noncomputable def nmP (c:Int) (k:Nat):Str:=if nmX c k∈dj then nmX c k++"xq" else nmX c k
theorem iu (i:Int) (n:Nat):(lz (ltr i) n).cps.toList=aak n (97+(i % 26).toNat):=by
 rw[Ek,fu];induction n with
 | zero=>rfl
 | succ n ih=>rw[ab5,abx,ih,ab5];rfl
theorem He (m:Int) (t:Str) (k:Nat):(nm0 m t k).cps.toList=(97+((m+(k:Int)) % 26).toNat)::(97+((m / 7+(k:Int) / 26) % 26).toNat)::t.cps.toList:=by
 unfold nm0;rw[gk,gk,fu,fu];rfl
theorem add_mod {n a b c:Int} (h:(a+b) % n=(a+c) % n):(b - c) % n=0:=by
 have h:=Int.emod_eq_emod_iff_emod_sub_eq_zero.mp h;rw[show a+b - (a+c)=b - c by omega] at h;exact h
theorem sm {a b:Int} {n:Nat} (hn:0 < n) (h:97+(a % (n:Int)).toNat=97+(b % (n:Int)).toNat):a % (n:Int)=b % (n:Int):=by
 have h1:=aas a (show (n:Int)≠0 by omega);have h2:=aas b (show (n:Int)≠0 by omega);generalize a % (n:Int)=x at h h1;generalize b % (n:Int)=y at h h2;omega
theorem Q7 {m:Int} {t:Str} {k k':Nat} (h:k < 60) (h':k' < 60) (e:nm0 m t k=nm0 m t k'):k=k':=by
 have e:=congrArg (λz:Str=>z.cps.toList) e;simp only[He,ac6] at e;obtain ⟨e1,e2,_⟩:=e;have a1:=add_mod (sm (n:=26) (by decide) e1);have a2:=add_mod (sm (n:=26) (by decide) e2);clear e1 e2;omega
theorem Hu:dj.Nodup:=by decide+kernel
theorem Qp {m:Int} {k k':Nat} (h:k < 60) (h':k' < 60) (e:nm1 m k=nm1 m k'):k=k':=by
 unfold nm1 at e;have e:=congrArg (λz:Str=>z.cps.toList) e;simp only[gk,fu] at e;obtain ⟨e1,e2⟩:=aez e rfl;have e1:=ow e1;have b1:(((k:Int)+m) % 9).toNat < dj.length:=by show _ < 9;omega
 have b2:(((k':Int)+m) % 9).toNat < dj.length:=by show _ < 9;omega
 rw[aae,aae,aa0 b1,aa0 b2] at e1;have e3:=(adx Hu).mp (show dj[(((k:Int)+m) % 9).toNat]=dj[(((k':Int)+m) % 9).toNat] from e1);simp only[ac6,and_true] at e2;have a2:=add_mod (sm (n:=26) (by decide) e2);have h1:=aas ((k:Int)+m) (show (9:Int)≠0 by decide);have h2:=aas ((k':Int)+m) (show (9:Int)≠0 by decide);have e4:((k:Int)+m) % 9=((k':Int)+m) % 9:=by
  generalize ((k:Int)+m) % 9=x at e3 h1;generalize ((k':Int)+m) % 9=y at e3 h2;clear a2 h h';omega
 rw[Int.add_comm,Int.add_comm (k':Int)] at e4;have a1:=add_mod e4;clear e1 e2 e3 e4 b1 b2 h1 h2 e;omega
theorem xi (m:Int) (k:Nat):(nm2 m k).cps.toList=aak (1+(k:Int) % 3).toNat (97+(m % 26).toNat)++(aak ((k:Int) / 3 % 4).toNat (97+((m+1) % 26).toNat)++[97+((m+2+(k:Int) / 12) % 26).toNat]):=by
 unfold nm2;rw[gk,gk,iu,iu,fu,abo]
theorem Q4 {m:Int} {k k':Nat} (h:k < 60) (h':k' < 60) (e:nm2 m k=nm2 m k'):k=k':=by
 have e:=congrArg (λz:Str=>z.cps.toList) e;simp only[xi] at e;have ab:97+((m+1) % 26).toNat≠97+(m % 26).toNat:=by omega
 have ac:∀k:Nat,k < 60→97+((m+2+(k:Int) / 12) % 26).toNat≠97+(m % 26).toNat:=λk h=>by omega
 have bc:∀k:Nat,k < 60→97+((m+2+(k:Int) / 12) % 26).toNat≠97+((m+1) % 26).toNat:=λk h=>by omega
 have c1:=congrArg (List.count (97+(m % 26).toNat)) e;have c2:=congrArg (List.count (97+((m+1) % 26).toNat)) e;have c3:=congrArg List.getLast? e;rw[abp,abp,abp,abp,ac9,ac9,acm,acm,acn,acn,if_neg (by simpa using ab),if_neg (by simpa using ac k h),if_neg (by simpa using ab),if_neg (by simpa using ac k' h')] at c1;rw[abp,abp,abp,abp,ac9,ac9,acm,acm,acn,acn,if_neg (by simpa using ab.symm),if_neg (by simpa using bc k h),if_neg (by simpa using ab.symm),if_neg (by simpa using bc k' h')] at c2;rw[←abo,←abo,ael,ael] at c3;have c3:=aa3 c3;rw[Int.add_assoc,Int.add_assoc m 2] at c3;have a3:=add_mod (sm (n:=26) (by decide) c3);clear c3 ab ac bc e;omega
theorem Ov (m:Int) (k:Nat):nm1 m k∉dj:=by
 intro h;have h:=ou.mp h;unfold nm1 at h;have b1:(((k:Int)+m) % 9).toNat < dj.length:=by show _ < 9;omega
 rw[gk,fu,aae,aa0 b1] at h;have a:∀x∈ownC,x.dropLast∉ownC:=by decide+kernel
 apply a _ h
 rw[aej];exact ou.mp (ab7 b1)
theorem Nu {m:Int} {k:Nat} (hk:k < 60):nm2 m k∉dj:=by
 intro h;have h:=ou.mp h;rw[xi] at h;have a:∀x∈ownC,3≤x.length∧x.getD 1 0≠x.getD 0 0∧x.getD 1 0≠x.getD 0 0+1∧(x.getD 0 0=122→False):=by decide+kernel
 obtain ⟨i,hi⟩:∃i,(1+(k:Int) % 3).toNat=i+1:=⟨((k:Int) % 3).toNat,by omega⟩;obtain ⟨a1,a2,a3,a4⟩:=a _ h;rw[hi,ab5] at a1 a2 a3 a4;cases i with
 | succ i=>
  rw[ab5] at a2;exact a2 rfl
 | zero=>
  cases hj:((k:Int) / 3 % 4).toNat with
  | zero=>
   rw[hj] at a1;simp at a1
  | succ j=>
   rw[hj,ab5] at a3;simp at a3 a4;omega
theorem zu {z:Str} (h:z∈dj):z.length≤4∧3≤z.length:=by
 have a:∀z∈dj,z.length≤4∧3≤z.length:=by decide+kernel
 exact a z h
theorem An:(Str.length "xq")=2:=by decide+kernel
theorem F9 {c:Int} {k k':Nat} (h:k < 60) (h':k' < 60) (e:nmX c k=nmX c k'):k=k':=by
 unfold nmX at e;by_cases c2:c % 3=2
 ·rw[if_pos c2,if_pos c2] at e;exact Q4 h h' e
 rw[if_neg c2,if_neg c2] at e;by_cases c1:c % 3=1
 ·rw[if_pos c1,if_pos c1] at e;exact Qp h h' e
 rw[if_neg c1,if_neg c1] at e;exact Q7 h h' e
theorem Gp {c:Int} {k:Nat} (h:k < 60) (e:nmX c k∈dj) (j:Nat):(nmX c j).length=(nmX c k).length:=by
 unfold nmX at e ⊢;by_cases c2:c % 3=2
 ·rw[if_pos c2] at e;exact absurd e (Nu h)
 rw[if_neg c2] at e;rw[if_neg c2,if_neg c2];by_cases c1:c % 3=1
 ·rw[if_pos c1] at e;exact absurd e (Ov _ _)
 rw[if_neg c1,if_neg c1];unfold nm0;rw[Str.length_append,Str.length_append,Str.length_append,Str.length_append,dw,dw,dw,dw]
theorem Qe {c:Int} {k k':Nat} (h:k < 60) (h':k' < 60) (e:nmP c k=nmP c k'):k=k':=by
 unfold nmP at e;have x2:=An;by_cases o:nmX c k∈dj
 ·rw[if_pos o] at e;have l1:=Gp h o k';have e2:=congrArg Str.length e;by_cases o':nmX c k'∈dj
  ·rw[if_pos o'] at e;have e:=congrArg (λz:Str=>z.cps.toList) e;simp only[gk] at e;exact F9 h h' (ow (aez e rfl).1)
  ·rw[if_neg o',Str.length_append] at e2;omega
 ·rw[if_neg o] at e;by_cases o':nmX c k'∈dj
  ·have l1:=Gp h' o' k;rw[if_pos o'] at e;have e2:=congrArg Str.length e;rw[Str.length_append] at e2;omega
  ·rw[if_neg o'] at e;exact F9 h h' e
theorem nmP_ok (c:Int) (k:Nat):nmOk (nmP c k):=by
 apply own_ok
 unfold nmP;by_cases o:nmX c k∈dj
 ·rw[if_pos o];intro h;have a:=(zu h).1;have b:=(zu o).2;rw[Str.length_append,An] at a;omega
 ·rw[if_neg o];exact o
theorem El {H:Hp} {l:Addr} {c:Int} (h:H l=some (.lst ((aaq 60).map λk=>V.str (nmP c k)))):cx H l ((aaq 60).map (nmP c)):=by
 refine ⟨by rw[ac3];exact h,by rw[aa1,aby],?_,λz hz=>?_⟩
 ·refine List.pairwise_map.mpr (List.Pairwise.imp_of_mem ?_ List.nodup_range);intro a b ha hb n e;exact n (Qe (List.mem_range.mp ha) (List.mem_range.mp hb) e)
 ·obtain ⟨k,_,rfl⟩:=List.mem_map.mp hz;exact nmP_ok c k
theorem Ge (m m':Int) (k:Nat):(nm0 m (ql m') k).length≤100:=by
 unfold nm0 ql;rw[Str.length_append,Str.length_append,dw,dw];have e:(lz (ltr (m' / 26)) (m' / 676 % 6).toNat).length=(lz (ltr (m' / 26)) (m' / 676 % 6).toNat).cps.toList.length:=rfl;rw[e,iu,abb];omega
theorem kj (i:Int) (n:Nat):(lz (ltr i) n).length=n:=by
 have e:(lz (ltr i) n).length=(lz (ltr i) n).cps.toList.length:=rfl;rw[e,iu,abb]
theorem G6 (m:Int) (k:Nat):(nm1 m k).length≤100:=by
 unfold nm1;have b1:(((k:Int)+m) % 9).toNat < dj.length:=by show _ < 9;omega
 rw[Str.length_append,dw,aae,aa0 b1];have:=(zu (ab7 b1)).1;show (dj[(((k:Int)+m) % 9).toNat]).length+1≤100
 omega
theorem Pn (m:Int) (k:Nat):(nm2 m k).length≤100:=by
 unfold nm2;rw[Str.length_append,Str.length_append,dw,kj,kj];omega
theorem Gq (c:Int) (k:Nat):(nmX c k).length≤100:=by
 unfold nmX;by_cases c2:c % 3=2
 ·rw[if_pos c2];exact Pn _ _
 rw[if_neg c2];by_cases c1:c % 3=1
 ·rw[if_pos c1];exact G6 _ _
 rw[if_neg c1];exact Ge _ _ _
theorem Np (z:Str):(inV (.str z) (dj.map V.str)=true)↔z∈dj:=by
 constructor
 ·intro h;obtain ⟨y,hy,e⟩:=List.mem_map.mp (jj h);rw[←V.str.inj e];exact hy
 ·intro h;exact nj (List.mem_map.mpr ⟨z,h,rfl⟩)
theorem bh.keep {H H':Hp} {b:Addr} {kinds:List Str} {rs:List Rl} (h:bh H b kinds rs) (t:∀{a:Addr} {xs:List V},H a=some (.tup xs)→H' a=some (.tup xs)):bh H' b kinds rs:=by
 obtain ⟨kt,rt,ra,h1,h2,h3,h4⟩:=h;exact ⟨kt,rt,ra,t h1,t h2,t h3,h4.keep t⟩
theorem Tw.pos {ws:List V} (h:Tw ws):0 < ws.length:=by
 cases ws with
 | nil=>cases h.one
 | cons x r=>exact Nat.succ_pos _
theorem zk (i:Int):∀c∈(ltr i).cps.toList,c < 128:=λc h=>by
 rw[fu] at h;rw[List.mem_singleton.mp h];omega
theorem pw {a b:Str} (h:∀c∈a.cps.toList,c < 128) (g:∀c∈b.cps.toList,c < 128):∀c∈(a++b).cps.toList,c < 128:=λc hc=>by
 rw[gk] at hc;rcases List.mem_append.mp hc with hc | hc
 ·exact h c hc
 ·exact g c hc
theorem E1 (i:Int) (n:Nat):∀c∈(lz (ltr i) n).cps.toList,c < 128:=λc h=>by
 rw[iu] at h;rw[(List.mem_replicate.mp h).2];omega
theorem own_tx {z:Str} (h:z∈dj):∀c∈z.cps.toList,c < 128:=by
 have a:∀z∈dj,∀c∈z.cps.toList,c < 128:=by decide+kernel
 exact a z h
theorem Ms (c:Int) (k:Nat):∀x∈(nmX c k).cps.toList,x < 128:=by
 unfold nmX;by_cases c2:c % 3=2
 ·rw[if_pos c2];exact pw (pw (E1 _ _) (E1 _ _)) (zk _)
 rw[if_neg c2];by_cases c1:c % 3=1
 ·rw[if_pos c1];unfold nm1;have b1:(((k:Int)+c / 3) % 9).toNat < dj.length:=by show _ < 9;omega
  rw[aae,aa0 b1];exact pw (own_tx (ab7 b1)) (zk _)
 rw[if_neg c1];exact pw (pw (zk _) (zk _)) (E1 _ _)
theorem nmP_tx (c:Int) (k:Nat):c4 (nmP c k):=by
 have l:=Gq c k;have x2:=An;unfold nmP;by_cases o:nmX c k∈dj
 ·rw[if_pos o];exact ⟨pw (Ms c k) (by decide+kernel),by rw[Str.length_append];omega⟩
 ·rw[if_neg o];exact ⟨Ms c k,by omega⟩
theorem Li (c:Int):∀z∈(aaq 60).map (nmP c),c4 z:=λz hz=>by
 obtain ⟨k,_,rfl⟩:=List.mem_map.mp hz;exact nmP_tx c k
end Pc
namespace Fm
section
variable {N:Type} [DecidableEq N]
structure Lin (lt:N→N→Bool):Prop where
 irr:∀x,lt x x=false
 tr:∀{x y z},lt x y=true→lt y z=true→lt x z=true
 tri:∀x y,lt x y=true∨x=y∨lt y x=true
variable {lt:N→N→Bool}
noncomputable def ev (mon:N→Int):List (N×Int)→Int
 | []=>0
 | p::r=>p.2*mon p.1+ev mon r
variable (mon:N→Int)
end
end Fm
namespace L2
open PySem PySem.Spec PyProof.Rows
def HV (P:Program) (w:World) (h:Heap):Nat→Value→Prop
 | 0,u=>∃k,(ay P w).is k u=true
 | n+1,u=>(∃k,(ay P w).is k u=true)∨∃a its,u=.ref a∧IsTup h a its∧∀v∈its.toList,HV P w h n v
section
variable {P:Program} {w:World}
theorem Cn:∀{xs:List V} {us:List Value},Vals xs us→∀u∈us,∃x∈xs,RelV x u
 | _,_,.nil,_,h=>nomatch h
 | x::xs,u::us,.cons r t,y,h=>by
  rcases List.mem_cons.mp h with e | e
  ·subst e;exact ⟨x,aa9,r⟩
  ·obtain ⟨z,hz,rz⟩:=Cn t y e;exact ⟨z,aab _ hz,rz⟩
theorem wo:∀(n m:Nat) {u:Value} {A:Around} {E:Value→Shared→Prop} {s:Shared} {Q:Bool→Shared→Prop},n≤m→HV P w s.heap n u→Q true s→wpAny (model P w) A (eqIsQuiet m u) Q E s
 | 0,m,_,_,_,_,_,_,⟨k,hk⟩,q=>by
  rw[eqIsQuiet_byValue m ((ay P w).byValue k _ hk)];exact wpAny_pure q
 | n+1,m,_,_,_,_,_,_,.inl ⟨k,hk⟩,q=>by
  rw[eqIsQuiet_byValue m ((ay P w).byValue k _ hk)];exact wpAny_pure q
 | n+1,0,_,_,_,_,_,hl,.inr _,_=>by omega
 | n+1,m+1,u,A,E,s,Q,hl,.inr ⟨a,its,e,ht,hi⟩,q=>by
  subst e;have hT:s.TypeIs (.ref a) "tuple":=ht.typeIs;obtain ⟨o,ho,hc,k,hd⟩:=id ht;unfold eqIsQuiet;refine wpAny_bind (wpAny_specialOf hT F.slot_tuple_eq.lookup (?_:wpAny _ _ (isInstance (.ref a) (.type "tuple") >>=_) _ _ s));refine wpAny_bind (wpAny_isInstance hT isSubtype_tuple_tuple ?_);simp only[Bool.not_true,ab6,if_false];refine wpAny_bind (wpAny_seqItems ho hd (wpAny_bind (?_:wpAny _ _ (forIn its _ _) _ _ s)));rw[←acy];refine wpAny_forIn_list _ (λrest r s'=>r.1=none∧s'=s∧∀v∈rest,HV P w s.heap n v) _ ?_ ?_ _ _ ⟨rfl,rfl,hi⟩
  ·rintro v rest r s' ⟨hr,rfl,hall⟩;refine wpAny_bind (wo n m (by omega) (hall v aa9) ?_);simp only[Bool.not_true,ab6,if_false];exact wpAny_pure ⟨rfl,rfl,λx hx=>hall x (aab _ hx)⟩
  ·rintro ⟨r1,r2⟩ s' ⟨hr,rfl,_⟩;simp only at hr;subst hr;exact wpAny_pure q
end
def TK (H H':Hp):Prop:=∀b xs,H b=some (.tup xs)→H' b=some (.tup xs)
theorem TK.of {H H':Hp} (s:ah H H'):TK H H':=λb xs h=>s b _ h
theorem TK.put {H:Hp} {a:Addr} {o o':HO} (h:H a=some o) (ho:∀xs,o≠.tup xs):TK H (upd H a o'):=λb xs hb=>by
 rw[ag (λe=>by rw[e,h] at hb;exact ho xs (aa3 hb))];exact hb
theorem Qs {J:It} {fr:St} {tc:TT} {te:TE} {D:Addr} {H1:Hp} {Q:Hp→Prop} (n:Nat) (item:Nat→V) (P:Nat→List V→Hp→Prop) (mono:∀i ys H H',TK H H'→P i ys H→P i ys H') (hn:n < sizeLine) (hD:H1 D=none)
  (hgo:∀i H,i < n→ah H1 H→J.go i H) (hyld:∀i H x H',i < n→ah H1 H→J.yld i H x H'→H'=H∧x=item i) (hstop:∀H,ah H1 H→J.stop n H) (h0:P 0 [] H1)
  (step:∀i ys H (G:Hp→Prop) (K':V→Hp→Prop),i < n→P i ys H→ys.length≤i→ah H1 H→(∀H3,ah H H3→P (i+1) ys H3→G H3)→(∀y H4,ah H H4→P (i+1) (ys++[y]) H4→K' y H4)→tc ([some (item i)]++fr) H λb H3=>if b=true then te ([some (item i)]++fr) H3 K' else G H3)
  (done:∀ys H,P n ys H→ys.length≤n→ah H1 H→H D=some (.lst ys)→Q H):LC 1 fr (cb 0) tc te J D H1 Q:=by
 refine ⟨λi m H=>m=n - i∧i≤n∧∃ys,H D=some (.lst ys)∧P i ys H∧ys.length≤i∧ah H1 H,⟨n,by simp,aa7 _,[],ae,mono _ _ _ _ (TK.of (aa hD _)) h0,aa4 _,aa hD _⟩,?_⟩;rintro i m H ⟨rfl,hi,ys,hys,hP,hl,hS⟩;by_cases hlt:i < n
 ·refine .inr ⟨hgo i H hlt hS,λτ x H' hτ hy=>?_⟩;obtain ⟨e1,e2⟩:=hyld i H x H' hlt hS hy;subst e1 e2;obtain ⟨a,rfl⟩:∃a,τ=[a]:=List.length_eq_one_iff.mp hτ;refine ⟨⟨[some (item i)],rfl,rfl⟩,step i ys H' _ _ hlt hP hl hS (λH3 q1 q2=>?_) (λy H4 q1 q2=>?_)⟩
  ·exact ⟨n - (i+1),by omega,rfl,hlt,ys,q1 _ _ hys,q2,ad5 hl,hS.trans q1⟩
  ·refine ⟨ys,q1 _ _ hys,by omega,n - (i+1),by omega,rfl,hlt,ys++[y],ae,mono _ _ _ _ (TK.put (q1 _ _ hys) λxs e=>by cases e) q2,?_,(hS.trans q1).upd hD _⟩;rw[aa2,aac];omega
 ·have e:i=n:=by omega
  subst e;exact .inl ⟨hstop H hS,done ys H hP hl hS hys⟩
theorem K3 {K:PySem.W.Frag} {c:Nat} {J:It} {fr:St} {tc:TT} {te:TE} {D:Addr} {H1:Hp} {Q:Hp→Prop} (n:Nat) (R:Nat→V→V→Hp→Prop) (P:Nat→List V→Hp→Prop) (mono:∀i ys H H',TK H H'→P i ys H→P i ys H') (hc:c=2) (hn:n < sizeLine) (hD:H1 D=none)
  (hgo:∀i H,i < n→ah H1 H→J.go i H) (hyld:∀i H v H',i < n→ah H1 H→J.yld i H v H'→ah H H'∧∃p x y,v=.ref p∧SqT K H' p [x,y]∧R i x y H') (hstop:∀H,ah H1 H→J.stop n H) (h0:P 0 [] H1)
  (step:∀i x y ys H (G:Hp→Prop) (K':V→Hp→Prop),i < n→R i x y H→P i ys H→ys.length≤i→ah H1 H→(∀H3,ah H H3→P (i+1) ys H3→G H3)→(∀y H4,ah H H4→P (i+1) (ys++[y]) H4→K' y H4)→tc ([some x,some y]++fr) H λb H3=>if b=true then te ([some x,some y]++fr) H3 K' else G H3)
  (done:∀ys H,P n ys H→ys.length≤n→ah H1 H→H D=some (.lst ys)→Q H):LC 2 fr (vw K c (dr (cb 0) (dr (cb 1) Bx))) tc te J D H1 Q:=by
 refine ⟨λi m H=>m=n - i∧i≤n∧∃ys,H D=some (.lst ys)∧P i ys H∧ys.length≤i∧ah H1 H,⟨n,by simp,aa7 _,[],ae,mono _ _ _ _ (TK.of (aa hD _)) h0,aa4 _,aa hD _⟩,?_⟩;rintro i m H ⟨rfl,hi,ys,hys,hP,hl,hS⟩;by_cases hlt:i < n
 ·refine .inr ⟨hgo i H hlt hS,λτ v H' hτ hy=>?_⟩;obtain ⟨e1,p,x,y,rfl,hp,hR⟩:=hyld i H v H' hlt hS hy;obtain ⟨a,b,rfl⟩:∃a b,τ=[a,b]:=us2 (P:=λτ=>∃a b,τ=[a,b]) hτ λa b=>⟨a,b,rfl⟩;have hys':=e1 _ _ hys;refine ⟨p,_,rfl,hp,by rw[hc];rfl,_,_,rfl,_,_,rfl,rfl,⟨[some x,some y],rfl,rfl⟩,step i x y ys H' _ _ hlt hR (mono _ _ _ _ (TK.of e1) hP) hl (hS.trans e1) (λH3 q1 q2=>?_) (λy H4 q1 q2=>?_)⟩
  ·exact ⟨n - (i+1),by omega,rfl,hlt,ys,q1 _ _ hys',q2,ad5 hl,(hS.trans e1).trans q1⟩
  ·refine ⟨ys,q1 _ _ hys',by omega,n - (i+1),by omega,rfl,hlt,ys++[y],ae,mono _ _ _ _ (TK.put (q1 _ _ hys') λxs e=>by cases e) q2,?_,((hS.trans e1).trans q1).upd hD _⟩;rw[aa2,aac];omega
 ·have e:i=n:=by omega
  subst e;exact .inl ⟨hstop H hS,done ys H hP hl hS hys⟩
end L2
namespace Fm
section
variable {α:Type}
noncomputable def ins (lt:α→α→Bool) (x:α):List α→List α
 | []=>[x]
 | y::r=>if lt y x=true then y::ins lt x r else x::y::r
noncomputable def Fi (lt:α→α→Bool) (l:List α):List α:=l.foldr (ins lt) []
variable {lt:α→α→Bool}
theorem ue (x:α):∀l:List α,(ins lt x l).Perm (x::l)
 | []=>ad3 _
 | y::r=>by
  show (if lt y x=true then y::ins lt x r else x::y::r).Perm _
  split
  ·exact ((ue x r).cons y).trans (List.Perm.swap x y r)
  ·exact ad3 _
theorem g7:∀l:List α,(Fi lt l).Perm l
 | []=>ad3 _
 | x::r=>(ue x (Fi lt r)).trans ((g7 r).cons x)
def Srt (lt:α→α→Bool) (l:List α):Prop:=l.Pairwise λa b=>lt b a=false
structure Pre (lt:α→α→Bool):Prop where
 irr:∀x,lt x x=false
 tr:∀{x y z},lt x y=true→lt y z=true→lt x z=true
 neg:∀{x z} (y:α),lt x z=true→lt x y=true∨lt y z=true
theorem Gh (o:Pre lt) (x:α):∀{l:List α},Srt lt l→Srt lt (ins lt x l)
 | [],_=>List.pairwise_singleton _ _
 | y::r,h=>by
  obtain ⟨h1,h2⟩:=List.pairwise_cons.mp h;show Srt lt (if lt y x=true then y::ins lt x r else x::y::r)
  split
  ·rename_i c
   refine List.pairwise_cons.mpr ⟨λz hz=>?_,Gh o x h2⟩;rcases List.mem_cons.mp ((ue x r).mem_iff.mp hz) with e | e
   ·rw[e];cases q:lt x y with
    | false=>rfl
    | true=>exact absurd (o.tr c q) (by rw[o.irr];decide)
   ·exact h1 z e
  ·rename_i c
   have c:lt y x=false:=Bool.eq_false_iff.mpr c;refine List.pairwise_cons.mpr ⟨λz hz=>?_,h⟩;rcases List.mem_cons.mp hz with e | e
   ·rw[e];exact c
   ·cases q:lt z x with
    | false=>rfl
    | true=>
     rcases o.neg y q with k | k
     ·rw[h1 z e] at k;cases k
     ·rw[c] at k;cases k
theorem o9 (o:Pre lt):∀l:List α,Srt lt (Fi lt l)
 | []=>aes
 | x::r=>Gh o x (o9 o r)
theorem um [DecidableEq α] (o:Lin lt):∀{l m:List α},l.Perm m→Srt lt l→Srt lt m→l=m
 | [],m,h,_,_=>h.nil_eq
 | a::r,[],h,_,_=>absurd h.length_eq (by simp)
 | a::r,b::s,h,h1,h2=>by
  obtain ⟨p1,p2⟩:=List.pairwise_cons.mp h1;obtain ⟨q1,q2⟩:=List.pairwise_cons.mp h2;have e:a=b:=by
   rcases List.mem_cons.mp (h.mem_iff.mp aa9) with e | e
   ·exact e
   ·rcases List.mem_cons.mp (h.mem_iff.mpr aa9) with k | k
    ·exact k.symm
    ·rcases o.tri a b with z | z | z
     ·rw[q1 a e] at z;cases z
     ·exact z
     ·rw[p1 b k] at z;cases z
  subst e;rw[um o (List.Perm.cons_inv h) p2 q2]
end
section
variable {N:Type} [DecidableEq N] {lt:N→N→Bool}
theorem Lin.pre (o:Lin lt) {β:Type} (f:β→N):Pre (λp q:β=>lt (f p) (f q)):=⟨λx=>o.irr _,λh k=>o.tr h k,λ{x z} y h=>by
 rcases o.tri (f x) (f y) with k | k | k
 ·exact .inl k
 ·rw[←k];exact .inr h
 ·exact .inr (o.tr k h)⟩
end
end Fm
namespace Pc
open PySem PySem.Spec L2 PyProof.Rows Fm
theorem linS:Lin ltS:=⟨zw,Ap,Fz⟩
noncomputable def az (l:List Str):List Str:=Fi ltS l
theorem Bn {l m:List Str} (hp:m.Perm l) (hs:Srt ltS m):m=az l:=um linS (hp.trans (g7 l).symm) hs (o9 (linS.pre id) l)
theorem fw (l:List Str):(az l).length=l.length:=(g7 l).length_eq
theorem gp {l:List Str} {z:Str}:z∈az l↔z∈l:=(g7 l).mem_iff
end Pc
namespace L2
open PySem PySem.Spec PyProof.Rows PySem.SeqAt Pc
end L2
namespace L2
open PySem
theorem Kv {k:Nat} {A:Around} (r:fm k A):A.units+8 < cLine:=by
 have:=r.units;omega
end L2
namespace Pc
open PySem PySem.Spec L2 PyProof.Rows Fm
end Pc
namespace L2
open PySem
theorem M5 {X:Cx} {pos:Pos} (K:PySem.W.Frag) (hK:X.K=K) {a b:Expr} {k:Nat} {t:TGs} (hc:X.calm=true) (h:PGs X [a,b] t) (hn:(assignEach [a,b] X.env).length=2:=by rfl) (hst:(assignEach [a,b] X.env).findIdx? (·.1)=none:=by rfl):PG X (.Tuple [a,b] k pos) (vw K 2 t):=by
 subst hK;exact Dx hc h hn hst
end L2
namespace Pc
open PySem PySem.Spec L2 PyProof.Rows Fm
theorem getD_some {α:Type} {l:List α} {i:Nat} {d x:α} (h:l[i]?=some x):l.getD i d=x:=by rw[aae,h];rfl
theorem jc {zs:List Str} {is:List Nat} (hp:is.Perm (aaq (zs.map V.str).length)) (hi:∀i j,i≤j→j < (zs.map V.str).length→rank zs.length (λi j=>ltS (zs.getD i "") (zs.getD j "")) (is.getD i 0)≤rank zs.length (λi j=>ltS (zs.getD i "") (zs.getD j "")) (is.getD j 0)):
  (is.map λi=>(zs.map V.str).getD i .non)=(az zs).map V.str:=by
 rw[aa1] at hp hi;have hlen:is.length=zs.length:=by rw[hp.length_eq,aby]
 have hmem:∀i∈is,i < zs.length:=λi h=>List.mem_range.mp (hp.mem_iff.mp h);have e1:(is.map λi=>(zs.map V.str).getD i .non)=(is.map λi=>zs.getD i "").map V.str:=by
  rw[ac3];apply aeo
  intro i h;have hi:=hmem i h;show (zs.map V.str).getD i .non=V.str (zs.getD i "")
  rw[getD_some (x:=V.str zs[i]) (by rw[aaa,aa0 hi];rfl),getD_some (aa0 hi)]
 rw[e1];congr 1
 refine Bn ?_ ?_
 ·have e:(aaq zs.length).map (λi=>zs.getD i "")=zs:=by
   apply ad6
   intro i;rw[aaa];by_cases h:i < zs.length
   ·rw[aep h,aa0 h];show some (zs.getD i "")=_
    rw[getD_some (aa0 h)]
   ·rw[List.getElem?_eq_none_iff.mpr (by rw[aby];omega),List.getElem?_eq_none_iff.mpr (by omega)];rfl
  have:=hp.map λi=>zs.getD i "";rw[e] at this;exact this
 ·refine List.pairwise_map.mpr (List.pairwise_iff_getElem.mpr λi j h1 h2 hij=>?_);have o:Ord zs.length λi j=>ltS (zs.getD i "") (zs.getD j ""):=⟨λ_ _=>zw _,λ_ _ _ _ _ _ a b=>Ap a b,λ_ j _ _ _ _ a=>Gk _ a⟩;have hr:=hi i j (abu hij) (by omega);rw[getD_some (aa0 h1),getD_some (aa0 h2)] at hr;have hrk:=o.rank (i:=is[j]) (j:=is[i]) (hmem _ (ab7 h2)) (hmem _ (ab7 h1));rw[decide_eq_false (by omega)] at hrk;exact hrk.symm
end Pc
namespace L2.Zd
open PySem
abbrev IsZ (h:Heap) (z TI TO:Addr) (f0 f1:Value):Prop:=
 h.get? z=some { cls:=.type "zip",dict:=none,data:=.fields #[f0,f1,.bool false,.ref TI,.ref TO],slots:=#[] }
section
variable {prog:Program} {w:World} {A:Around} {E:Value→Shared→Prop} {s:Shared}
theorem alive {M:Model} {a:Addr} {Q:Option Obj→Shared→Prop} (h:Q (s.heap.get? a) s):wpAny M A (loadIfAlive a) Q E s:=λΓ p hΓ=>by
 unfold loadIfAlive;rw[Sem.wp_loadIfAlive];exact wpAny_pure h Γ p hΓ
theorem Jg {z TI TO T:Addr} {b:Bool} {o:Obj} {Q:Bool→Shared→Prop} (hz:IsZ s.heap z TI TO (rawInt T) (.bool b)) (ho:s.heap.get? T=some o)
  (q:∀h',IsZ h' z TI TO (rawInt T) (.bool true)→Heap.SameBut z s.heap h'→Q false { s with heap:=h' }):wpAny (model prog w) A (Builtin.SmallTypes.ownedTupleIsFree (.ref z)) Q E s:=by
 unfold Builtin.SmallTypes.ownedTupleIsFree;refine wpAny_bind (wpAny_field hz rfl (x:=rawInt T) rfl ?_);show wpAny _ _ (loadIfAlive T >>=_) _ _ _
 refine wpAny_bind (alive ?_);rw[ho];show wpAny _ _ (field (.ref z) 1 >>=_) _ _ _
 refine wpAny_bind (wpAny_field hz rfl (x:=.bool b) rfl ?_);cases b with
 | true=>exact wpAny_pure (q s.heap hz (Heap.SameBut.refl _ _))
 | false=>exact wpAny_bind (wpAny_setField_rec hz (by simp) λh' hz' hs'=>wpAny_pure (q h' hz' hs'))
end
end L2.Zd
namespace L2.Zg
open PySem L2.Zd
def Hf:Bool→Addr→Addr→Array Value→Nat→Heap→Prop
 | false,it,l,xs,k,h=>h.IsListIter it l k∧h.IsList l xs
 | true,it,l,xs,k,h=>h.IsTupleIter it l k∧h.IsTuple l xs
theorem Hf.keep {b:Bool} {it l:Addr} {xs:Array Value} {k:Nat} {h h':Heap} (x:Hf b it l xs k h) (g1:∀o,h.get? it=some o→h'.get? it=some o) (g2:∀o,h.get? l=some o→h'.get? l=some o):Hf b it l xs k h':=by
 cases b
 ·obtain ⟨⟨o,e,r⟩,⟨o',e',r'⟩⟩:=x;exact ⟨⟨o,g1 _ e,r⟩,⟨o',g2 _ e',r'⟩⟩
 ·obtain ⟨⟨o,e,r⟩,⟨o',e',r'⟩⟩:=x;exact ⟨⟨o,g1 _ e,r⟩,⟨o',g2 _ e',r'⟩⟩
section
variable {prog:Program} {w:World} {A:Around} {E:Value→Shared→Prop} {s:Shared}
theorem Hf.next {b:Bool} {it l:Addr} {xs:Array Value} {k:Nat} {v:Value} {Q:Value→Shared→Prop} (x:Hf b it l xs k s.heap) (hne:l≠it) (hx:xs[k]?=some v)
  (hQ:∀h',Hf b it l xs (k+1) h'→Heap.SameBut it s.heap h'→Q v { s with heap:=h' }):wpAny (model prog w) A (Builtin.SmallTypes.nextOf (.ref it)) Q E s:=by
 cases b
 ·obtain ⟨x1,x2⟩:=x;exact wpAny_nextOf_list_item x1 x2 hx λh' a b=>hQ h' ⟨a,x2.extBut b.extBut hne⟩ b
 ·obtain ⟨x1,x2⟩:=x;have ty:=x1.typeIs;obtain ⟨oi,hoi,ci,di⟩:=id x1;obtain ⟨ot,hot,_,nt,dt⟩:=id x2;unfold Builtin.SmallTypes.nextOf;refine wpAny_bind (wpAny_callSpecial?_slot (name:=Str.ofString "__next__") ty F.slot_tuple_iterator_next (wpAny_call_entry F.slot_tuple_iterator_next ty F.entry_tuple_iterator_next ?_ (F.args_tuple_iterator_next_1 _)));show wpAny _ _ (field (.ref it) 0 >>=_) _ _ s
  refine wpAny_bind (wpAny_field hoi di (x:=.ref l) rfl ?_);show wpAny _ _ (if (Value.ref l==Value.none)=true then _ else _) _ _ s
  rw[if_neg (show ¬((Value.ref l==Value.none)=true) from aaj)];show wpAny _ _ (field (.ref it) 1 >>=_) _ _ s
  refine wpAny_bind (wpAny_field hoi di (x:=.int k 0) rfl ?_);show wpAny _ _ (seqItems? (.ref l) >>=_) _ _ s
  refine wpAny_bind (wpAny_seqItems hot dt ?_);simp only[ac8,hx];refine wpAny_bind (wpAny_setField hoi di (by simp) (wpAny_pure ⟨v,rfl,wpAny_pure (hQ _ ⟨⟨_,Heap.get?_update_self _ hoi (Obj.isFreed_of_fields (Obj.data_mapFields di _)),(Obj.cls_mapFields ..).trans ci,by rw[Obj.data_mapFields di];simp[rawInt]⟩,x2.extBut (Heap.SameBut.update ..).extBut hne⟩ (Heap.SameBut.update ..))⟩))
theorem Hf.stop {b:Bool} {it l:Addr} {xs:Array Value} {k:Nat} {Q:Value→Shared→Prop} (hh:A.handled=none) (x:Hf b it l xs k s.heap) (hx:xs[k]?=none)
  (hE:∀h' e,Heap.ExtBut it s.heap h'→(∃o,h'.get? e=some o∧o.cls=.type "StopIteration")→E (.ref e) { s with heap:=h' }):wpAny (model prog w) A (Builtin.SmallTypes.nextOf (.ref it)) Q E s:=by
 cases b
 ·obtain ⟨x1,x2⟩:=x;exact wpAny_nextOf_list_end hh x1 x2 hx hE
 ·obtain ⟨x1,x2⟩:=x;have ty:=x1.typeIs;obtain ⟨oi,hoi,ci,di⟩:=id x1;obtain ⟨ot,hot,_,nt,dt⟩:=id x2;unfold Builtin.SmallTypes.nextOf;refine wpAny_bind (wpAny_callSpecial?_slot (name:=Str.ofString "__next__") ty F.slot_tuple_iterator_next (wpAny_call_entry F.slot_tuple_iterator_next ty F.entry_tuple_iterator_next ?_ (F.args_tuple_iterator_next_1 _)));show wpAny _ _ (field (.ref it) 0 >>=_) _ _ s
  refine wpAny_bind (wpAny_field hoi di (x:=.ref l) rfl ?_);show wpAny _ _ (if (Value.ref l==Value.none)=true then _ else _) _ _ s
  rw[if_neg (show ¬((Value.ref l==Value.none)=true) from aaj)];show wpAny _ _ (field (.ref it) 1 >>=_) _ _ s
  refine wpAny_bind (wpAny_field hoi di (x:=.int k 0) rfl ?_);show wpAny _ _ (seqItems? (.ref l) >>=_) _ _ s
  refine wpAny_bind (wpAny_seqItems hot dt ?_);simp only[ac8,hx];refine wpAny_bind (wpAny_rule (wpAny_bind (wpAny_setField hoi di (by simp) ?_)));show wpAny _ _ (newExc (.type "StopIteration") [] >>=_) _ _ _
  refine wpAny_bind ?_;simp only[newExc,newTuple];refine wpAny_bind (wpAny_newObj_type ?_ (by size_fits));refine wpAny_bind (m:=firstArgMember _ _) (wpAny_of_eq (a:=Value.none) (by first | rfl | (simp only[firstArgMember];rfl)) ?_);refine wpAny_newObj_type ?_ (by size_fits);simp only[raiseNew];refine wpAny_bind (wpAny_handled ?_);first | rw[show A.in1.handled=none from hh] | rw[hh]
  refine wpAny_bind (wpAny_pure (wpAny_throw ?_));exact hE _ _ (((Heap.SameBut.update ..).extBut.push _).push _) ⟨_,Heap.get?_push_size _ rfl,rfl⟩
theorem free {z TI TO:Addr} {f0:Value} {b:Bool} {Q:Bool→Shared→Prop} (hz:IsZ s.heap z TI TO f0 (.bool b)) (hf:f0=.none∨∃T:Addr,f0=rawInt T)
  (q:∀r h' b',IsZ h' z TI TO f0 (.bool b')→Heap.SameBut z s.heap h'→Q r { s with heap:=h' }):wpAny (model prog w) A (Builtin.SmallTypes.ownedTupleIsFree (.ref z)) Q E s:=by
 rcases hf with rfl | ⟨T,rfl⟩
 ·unfold Builtin.SmallTypes.ownedTupleIsFree;refine wpAny_bind (wpAny_field hz rfl (x:=.none) rfl (wpAny_pure ?_));exact q true s.heap b hz (Heap.SameBut.refl _ _)
 ·cases ho:s.heap.get? T with
  | some o=>exact Jg hz ho λh' a c=>q false h' true a c
  | none=>
   unfold Builtin.SmallTypes.ownedTupleIsFree;refine wpAny_bind (wpAny_field hz rfl (x:=rawInt T) rfl ?_);show wpAny _ _ (loadIfAlive T >>=_) _ _ _
   refine wpAny_bind (alive ?_);rw[ho];exact wpAny_pure (q true s.heap b hz (Heap.SameBut.refl _ _))
end
structure Am (it l:Addr) (St:Nat→Heap→Prop) (gv:Nat→Nat→Option Value) (dt:Nat):Prop where
 keep:∀{k:Nat} {h h':Heap},St k h→(∀o,h.get? it=some o→h'.get? it=some o)→(∀o,h.get? l=some o→h'.get? l=some o)→St k h'
 next:∀{prog:Program} {w:World} {A:Around} {E:Value→Shared→Prop} {s:Shared} {k:Nat} {v:Value} {Q:Value→Shared→Prop},St k s.heap→l≠it→gv k s.toks=some v→
  (∀h',St (k+1) h'→Heap.SameBut it s.heap h'→Q v { s with heap:=h',toks:=s.toks+dt })→wpAny (model prog w) A (Builtin.SmallTypes.nextOf (.ref it)) Q E s
 stop:∀{prog:Program} {w:World} {A:Around} {E:Value→Shared→Prop} {s:Shared} {k:Nat} {Q:Value→Shared→Prop},A.handled=none→St k s.heap→gv k s.toks=none→
  (∀h' e,Heap.ExtBut it s.heap h'→(∃o,h'.get? e=some o∧o.cls=.type "StopIteration")→E (.ref e) { s with heap:=h' })→wpAny (model prog w) A (Builtin.SmallTypes.nextOf (.ref it)) Q E s
theorem og {b:Bool} {it l:Addr} {xs:Array Value}:Am it l (Hf b it l xs) (λk _=>xs[k]?) 0:=⟨Hf.keep,Hf.next,Hf.stop⟩
def ZsI (S1 S2:Nat→Heap→Prop) (z TI TO i1 i2:Addr) (i:Nat) (h:Heap):Prop:=
 (∃f0 b,IsZ h z TI TO f0 (.bool b)∧(f0=.none∨∃T:Addr,f0=rawInt T))∧(∃a b,IsPair h TO a b)∧IsPair h TI (.ref i1) (.ref i2)∧S1 i h∧S2 i h
abbrev Zst (c1 c2:Bool) (z TI TO i1 i2 l1 l2:Addr) (xs ys:Array Value) (i:Nat) (h:Heap):Prop:=ZsI (Hf c1 i1 l1 xs) (Hf c2 i2 l2 ys) z TI TO i1 i2 i h
theorem ZsI.keep {S1 S2:Nat→Heap→Prop} {g1 g2:Nat→Nat→Option Value} {d1 d2:Nat} {z TI TO i1 i2 l1 l2:Addr} {i:Nat} {h h':Heap} (F1:Am i1 l1 S1 g1 d1) (F2:Am i2 l2 S2 g2 d2) (x:ZsI S1 S2 z TI TO i1 i2 i h) (k:∀c∈[z,TI,TO,i1,i2],∀o,h.get? c=some o→h'.get? c=some o) (k1:∀o,h.get? l1=some o→h'.get? l1=some o) (k2:∀o,h.get? l2=some o→h'.get? l2=some o):ZsI S1 S2 z TI TO i1 i2 i h':=by
 obtain ⟨⟨f0,b,a1,a2⟩,⟨p,q,a3⟩,a4,a5,a6⟩:=x;exact ⟨⟨f0,b,k z (by simp) _ a1,a2⟩,⟨p,q,k TO (by simp) _ a3⟩,k TI (by simp) _ a4,F1.keep a5 (k i1 (by simp)) k1,F2.keep a6 (k i2 (by simp)) k2⟩
section
variable {prog:Program} {w:World} {A:Around} {E:Value→Shared→Prop} {s:Shared} {S1 S2:Nat→Heap→Prop} {g1 g2:Nat→Nat→Option Value} {dt:Nat} {z TI TO i1 i2 l1 l2:Addr} {i:Nat}
theorem itemI {x y:Value} {Q:Value→Shared→Prop} (F1:Am i1 l1 S1 g1 dt) (F2:Am i2 l2 S2 g2 0) (D:ZipApart z TI TO i1 i2 l1 l2) (hz:ZsI S1 S2 z TI TO i1 i2 i s.heap) (hx:g1 i s.toks=some x) (hy:g2 i (s.toks+dt)=some y)
  (hQ:∀h',ZsI S1 S2 z TI TO i1 i2 (i+1) h'→IsPair h' s.heap.objs.size x y→h'.objs.size=s.heap.objs.size+1→(∀c o,c≠z→c≠TO→c≠i1→c≠i2→s.heap.get? c=some o→h'.get? c=some o)→Q (.ref s.heap.objs.size) { s with heap:=h',toks:=s.toks+dt }):
  wpAny (model prog w) A (Builtin.«zip.__next__» ⟨[.ref z],[]⟩) (λfin s'=>∃v,fin=.done (.ret v)∧Q v s') E s:=by
 obtain ⟨⟨f0,b,z0,hf⟩,⟨p,q,hTO⟩,hTI,h1,h2⟩:=hz;show wpAny _ _ (field (.ref z) 2 >>=_) _ _ _
 refine wpAny_bind (wpAny_field z0 rfl (x:=.bool false) rfl ?_);show wpAny _ _ (field (.ref z) 3 >>=_) _ _ _
 refine wpAny_bind (wpAny_field z0 rfl (x:=.ref TI) rfl ?_);refine wpAny_bind (wpAny_seqItems hTI rfl ?_);show wpAny _ _ (Builtin.SmallTypes.ownedTupleIsFree (.ref z) >>=_) _ _ _
 refine wpAny_bind (free z0 hf λr h₁ b1 z1 s1=>?_);have k1:∀c o,c≠z→s.heap.get? c=some o→h₁.get? c=some o:=λc o n e=>s1.extBut _ _ n e;have H1:=F1.keep h1 (λo e=>k1 _ o D.i1z e) λo e=>k1 _ o D.l1z e;have H2:=F2.keep h2 (λo e=>k1 _ o D.i2z e) λo e=>k1 _ o D.l2z e;cases r with
 | false=>
  simp only[ab6,if_false];refine wpAny_bind ?_;rw[←acy];simp only[adi,adm];refine wpAny_bind (wpAny_bind (wpAny_holding ?_));show wpAny _ _ (Builtin.SmallTypes.nextOf (.ref i1) >>=_) _ _ _
  refine wpAny_bind (F1.next (s:={ s with heap:=h₁ }) H1 D.l1i1 hx λh₂ H1' s2=>wpAny_pure (wpAny_pure ?_));have s2:Heap.SameBut i1 h₁ h₂:=s2;have H2':=F2.keep H2 (λo e=>s2.extBut _ _ D.i12.symm e) λo e=>s2.extBut _ _ D.l2i1 e;refine wpAny_bind (wpAny_bind (wpAny_holding ?_));show wpAny _ _ (Builtin.SmallTypes.nextOf (.ref i2) >>=_) _ _ _
  refine wpAny_bind (F2.next (s:={ s with heap:=h₂,toks:=s.toks+dt }) H2' D.l2i2 hy λh₃ H2'' s3=>wpAny_pure (wpAny_pure (wpAny_pure ?_)));have s3:Heap.SameBut i2 h₂ h₃:=s3;refine wpAny_bind (wpAny_newTuple (hsz:=by show (2:Nat)≤sizeLine;decide) ?_);have sz:h₃.objs.size=s.heap.objs.size:=by rw[s3.1,s2.1,s1.1]
  have up:∀c o,c≠z→c≠i1→c≠i2→s.heap.get? c=some o→(h₃.push { cls:=.type "tuple",data:=.seq #[x,y] }).get? c=some o:=λc o n1 n2 n3 e=>Heap.get?_push_of_some _ (s3.extBut _ _ n3 (s2.extBut _ _ n2 (s1.extBut _ _ n1 e)));refine wpAny_pure ⟨_,rfl,?_⟩;rw[sz];refine hQ _ ⟨⟨f0,b1,Heap.get?_push_of_some _ (s3.extBut _ _ D.i2z.symm (s2.extBut _ _ D.i1z.symm z1)),hf⟩,⟨p,q,up _ _ D.TOz D.TOi1 D.TOi2 hTO⟩,up _ _ D.TIz D.TIi1 D.TIi2 hTI,?_,F2.keep H2'' (λo e=>Heap.get?_push_of_some _ e) λo e=>Heap.get?_push_of_some _ e⟩ ?_ (by rw[Heap.size_push,sz]) λc o n1 _ n3 n4 e=>up c o n1 n3 n4 e
  ·exact F1.keep H1' (λo e=>Heap.get?_push_of_some _ (s3.extBut _ _ D.i12 e)) λo e=>Heap.get?_push_of_some _ (s3.extBut _ _ D.l1i2 e)
  ·rw[←sz];exact Heap.get?_push_size _ rfl
 | true=>
  simp only[if_true];refine wpAny_bind (wpAny_rule ?_);refine wpAny_bind (wpAny_field z1 rfl (x:=.ref TO) rfl ?_);refine wpAny_bind (wpAny_setField_rec z1 (by simp) λh₂ z2 s2=>?_);replace z2:IsZ h₂ z TI TO .ellipsis (.bool b1):=z2
  have s2:Heap.SameBut z h₁ h₂:=s2;refine wpAny_bind ?_;simp only[af0,af6,adi,adm];have H1a:=F1.keep H1 (λo e=>s2.extBut _ _ D.i1z e) λo e=>s2.extBut _ _ D.l1z e;have H2a:=F2.keep H2 (λo e=>s2.extBut _ _ D.i2z e) λo e=>s2.extBut _ _ D.l2z e;refine wpAny_bind (wpAny_bind (wpAny_onRaise ?_));show wpAny _ _ (Builtin.SmallTypes.nextOf (.ref i1) >>=_) _ _ _
  refine wpAny_bind (F1.next (s:={ s with heap:=h₂ }) H1a D.l1i1 hx λh₃ H1b s3=>wpAny_pure ?_);have s3:Heap.SameBut i1 h₂ h₃:=s3;have o3:IsPair h₃ TO p q:=s3.extBut _ _ D.TOi1 (s2.extBut _ _ D.TOz (k1 _ _ D.TOz hTO));refine wpAny_bind (wpAny_seqItems o3 rfl ?_);refine wpAny_bind (wpAny_updateSeq_pair o3 λh₄ o4 s4=>?_);replace o4:IsPair h₄ TO x q:=o4
  have s4:Heap.SameBut TO h₃ h₄:=s4;refine wpAny_bind (wpAny_letGo (wpAny_pure ?_));have H2b:=F2.keep H2a (λo e=>s4.extBut _ _ D.TOi2.symm (s3.extBut _ _ D.i12.symm e)) λo e=>s4.extBut _ _ D.l2TO (s3.extBut _ _ D.l2i1 e);refine wpAny_bind (wpAny_bind (wpAny_onRaise ?_));show wpAny _ _ (Builtin.SmallTypes.nextOf (.ref i2) >>=_) _ _ _
  refine wpAny_bind (F2.next (s:={ s with heap:=h₄,toks:=s.toks+dt }) H2b D.l2i2 hy λh₅ H2c s5=>wpAny_pure ?_);have s5:Heap.SameBut i2 h₄ h₅:=s5;have o5:IsPair h₅ TO x q:=s5.extBut _ _ D.TOi2 o4;refine wpAny_bind (wpAny_seqItems o5 rfl ?_);refine wpAny_bind (wpAny_updateSeq_pair o5 λh₆ o6 s6=>?_);replace o6:IsPair h₆ TO x y:=o6
  have s6:Heap.SameBut TO h₅ h₆:=s6;refine wpAny_bind (wpAny_letGo (wpAny_pure (wpAny_pure ?_)));refine wpAny_bind (wpAny_seqItems o6 rfl ?_);refine wpAny_bind (wpAny_newTuple ?_);have sz:h₆.objs.size=s.heap.objs.size:=by rw[s6.1,s5.1,s4.1,s3.1,s2.1,s1.1]
  have z6:IsZ h₆ z TI TO .ellipsis (.bool b1):=s6.extBut _ _ D.TOz.symm (s5.extBut _ _ D.i2z.symm (s4.extBut _ _ D.TOz.symm (s3.extBut _ _ D.i1z.symm z2)));have up:∀c o,c≠z→c≠TO→c≠i1→c≠i2→s.heap.get? c=some o→h₆.get? c=some o:=λc o n1 n2 n3 n4 e=>s6.extBut _ _ n2 (s5.extBut _ _ n4 (s4.extBut _ _ n2 (s3.extBut _ _ n3 (s2.extBut _ _ n1 (k1 _ _ n1 e)))));have H1c:=F1.keep H1b (λo e=>s6.extBut _ _ D.TOi1.symm (s5.extBut _ _ D.i12 (s4.extBut _ _ D.TOi1.symm e))) λo e=>s6.extBut _ _ D.l1TO (s5.extBut _ _ D.l1i2 (s4.extBut _ _ D.l1TO e));have H2d:=F2.keep H2c (λo e=>s6.extBut _ _ D.TOi2.symm e) λo e=>s6.extBut _ _ D.l2TO e;have zl:z < h₆.objs.size:=Heap.lt_size z6;show wpAny _ _ (Builtin.SmallTypes.ownedTupleHandOut (.ref z) (.ref h₆.objs.size) >>=_) _ _ _
  refine wpAny_bind ?_;unfold Builtin.SmallTypes.ownedTupleHandOut;have z7:IsZ (h₆.push { cls:=.type "tuple",data:=.seq #[x,y] }) z TI TO .ellipsis (.bool b1):=Heap.get?_push_of_some _ z6;refine wpAny_bind (wpAny_setField_rec z7 (by simp) λh₈ z8 s8=>?_);replace z8:IsZ h₈ z TI TO (rawInt h₆.objs.size) (.bool b1):=z8
  refine wpAny_setField_rec z8 (by simp) λh₉ z9 s9=>?_;replace z9:IsZ h₉ z TI TO (rawInt h₆.objs.size) (.bool false):=z9
  have u9:∀c o,c≠z→h₆.get? c=some o→h₉.get? c=some o:=λc o n e=>s9.extBut _ _ n (s8.extBut _ _ n (Heap.get?_push_of_some _ e));have t9:IsPair h₉ h₆.objs.size x y:=s9.extBut _ _ (abc zl) (s8.extBut _ _ (abc zl) (Heap.get?_push_size _ rfl));have n9:h₉.objs.size=h₆.objs.size+1:=by rw[s9.1,s8.1,Heap.size_push]
  rw[sz] at z9 t9 n9;refine wpAny_pure ⟨_,rfl,?_⟩;show Q (.ref h₆.objs.size) _
  rw[sz];exact hQ h₉ ⟨⟨_,false,z9,.inr ⟨_,rfl⟩⟩,⟨x,y,u9 _ _ D.TOz o6⟩,u9 _ _ D.TIz (up _ _ D.TIz D.TITO D.TIi1 D.TIi2 hTI),F1.keep H1c (λo e=>u9 _ o D.i1z e) λo e=>u9 _ o D.l1z e,F2.keep H2d (λo e=>u9 _ o D.i2z e) λo e=>u9 _ o D.l2z e⟩ t9 n9 λc o n1 n2 n3 n4 e=>u9 c o n1 (up c o n1 n2 n3 n4 e)
theorem finI {Q:Fin→Shared→Prop} (F1:Am i1 l1 S1 g1 dt) (hh:A.handled=none) (D:ZipApart z TI TO i1 i2 l1 l2) (hz:ZsI S1 S2 z TI TO i1 i2 i s.heap) (hx:g1 i s.toks=none)
  (hE:∀h' e,(∀c o,c≠z→c≠TO→c≠i1→c≠i2→s.heap.get? c=some o→h'.get? c=some o)→(∃o,h'.get? e=some o∧o.cls=.type "StopIteration")→E (.ref e) { s with heap:=h' }):
  wpAny (model prog w) A (Builtin.«zip.__next__» ⟨[.ref z],[]⟩) Q E s:=by
 obtain ⟨⟨f0,b,z0,hf⟩,⟨p,q,hTO⟩,hTI,h1,h2⟩:=hz;show wpAny _ _ (field (.ref z) 2 >>=_) _ _ _
 refine wpAny_bind (wpAny_field z0 rfl (x:=.bool false) rfl ?_);show wpAny _ _ (field (.ref z) 3 >>=_) _ _ _
 refine wpAny_bind (wpAny_field z0 rfl (x:=.ref TI) rfl ?_);refine wpAny_bind (wpAny_seqItems hTI rfl ?_);show wpAny _ _ (Builtin.SmallTypes.ownedTupleIsFree (.ref z) >>=_) _ _ _
 refine wpAny_bind (free z0 hf λr h₁ b1 z1 s1=>?_);have k1:∀c o,c≠z→s.heap.get? c=some o→h₁.get? c=some o:=λc o n e=>s1.extBut _ _ n e;have H1:=F1.keep h1 (λo e=>k1 _ o D.i1z e) λo e=>k1 _ o D.l1z e;cases r with
 | false=>
  simp only[ab6,if_false];refine wpAny_bind ?_;rw[←acy];simp only[adi,adm];refine wpAny_bind (wpAny_bind (wpAny_holding ?_));show wpAny _ _ (Builtin.SmallTypes.nextOf (.ref i1) >>=_) _ _ _
  exact wpAny_bind (F1.stop (s:={ s with heap:=h₁ }) hh H1 hx λh₂ e s2 he=>hE h₂ e (λc o n1 _ n3 _ g=>s2 _ _ n3 (k1 _ _ n1 g)) he)
 | true=>
  simp only[if_true];refine wpAny_bind (wpAny_rule ?_);refine wpAny_bind (wpAny_field z1 rfl (x:=.ref TO) rfl ?_);refine wpAny_bind (wpAny_setField_rec z1 (by simp) λh₂ z2 s2=>?_);replace z2:IsZ h₂ z TI TO .ellipsis (.bool b1):=z2
  have s2:Heap.SameBut z h₁ h₂:=s2;refine wpAny_bind ?_;simp only[af0,af6,adi,adm];have H1a:=F1.keep H1 (λo e=>s2.extBut _ _ D.i1z e) λo e=>s2.extBut _ _ D.l1z e;refine wpAny_bind (wpAny_bind (wpAny_onRaise ?_));show wpAny _ _ (Builtin.SmallTypes.nextOf (.ref i1) >>=_) _ _ _
  refine wpAny_bind (F1.stop (s:={ s with heap:=h₂ }) hh H1a hx λh₃ e s3 he=>?_);obtain ⟨oe,hoe,hce⟩:=he;have z3:IsZ h₃ z TI TO .ellipsis (.bool b1):=s3 _ _ D.i1z.symm z2;have hez:e≠z:=λx=>by subst x;rw[z3] at hoe;cases hoe;simp at hce
  exact wpAny_setField_rec z3 (by simp) λh₄ _ s4=>hE h₄ e (λc o n1 _ n3 _ g=>s4.extBut _ _ n1 (s3 _ _ n3 (s2.extBut _ _ n1 (k1 _ _ n1 g)))) ⟨oe,s4.extBut _ _ hez hoe,hce⟩
theorem Ql {x y:Value} {Q:Option Value→Shared→Prop} (F1:Am i1 l1 S1 g1 dt) (F2:Am i2 l2 S2 g2 0) (D:ZipApart z TI TO i1 i2 l1 l2) (hz:ZsI S1 S2 z TI TO i1 i2 i s.heap) (hx:g1 i s.toks=some x) (hy:g2 i (s.toks+dt)=some y)
  (hQ:∀h',ZsI S1 S2 z TI TO i1 i2 (i+1) h'→IsPair h' s.heap.objs.size x y→h'.objs.size=s.heap.objs.size+1→(∀c o,c≠z→c≠TO→c≠i1→c≠i2→s.heap.get? c=some o→h'.get? c=some o)→Q (some (.ref s.heap.objs.size)) { s with heap:=h',toks:=s.toks+dt }):
  wpAny (model prog w) A (pyNext (.ref z)) Q E s:=by
 have hT:s.TypeIs (.ref z) "zip":=by obtain ⟨⟨f0,b,z0,_⟩,_⟩:=hz;exact ⟨_,z0,rfl⟩
 unfold pyNext;exact wpAny_bind (wpAny_attempt (wpAny_callSpecial?_slot (name:=Str.ofString "__next__") hT F.slot_zip_next (wpAny_call_entry F.slot_zip_next hT F.entry_zip_next (itemI F1 F2 D hz hx hy λh' a b c d=>wpAny_pure (hQ h' a b c d)) (F.args_zip_next_1 _))))
theorem pyFinI {Q:Option Value→Shared→Prop} (F1:Am i1 l1 S1 g1 dt) (hh:A.handled=none) (D:ZipApart z TI TO i1 i2 l1 l2) (hz:ZsI S1 S2 z TI TO i1 i2 i s.heap) (hx:g1 i s.toks=none)
  (hQ:∀h',(∀c o,c≠z→c≠TO→c≠i1→c≠i2→s.heap.get? c=some o→h'.get? c=some o)→Q none { s with heap:=h' }):wpAny (model prog w) A (pyNext (.ref z)) Q E s:=by
 have hT:s.TypeIs (.ref z) "zip":=by obtain ⟨⟨f0,b,z0,_⟩,_⟩:=hz;exact ⟨_,z0,rfl⟩
 unfold pyNext;refine wpAny_bind (wpAny_attempt (wpAny_callSpecial?_slot (name:=Str.ofString "__next__") hT F.slot_zip_next (wpAny_call_entry F.slot_zip_next hT F.entry_zip_next (finI F1 (by first | exact hh | simp[hh]) D hz hx λh' e hk he=>?_) (F.args_zip_next_1 _))));obtain ⟨o,ho,hc⟩:=he;refine wpAny_bind (wpAny_isInstance (T:="StopIteration") (b:=true) ⟨o,ho,hc⟩ isSubtype_stop ?_);exact wpAny_pure (hQ _ hk)
theorem Qk {Q:Value→Shared→Prop} (hz:ZsI S1 S2 z TI TO i1 i2 i s.heap) (h:Q (.ref z) s):wpAny (model prog w) A (pyIter (.ref z)) Q E s:=by
 have hT:s.TypeIs (.ref z) "zip":=by obtain ⟨⟨f0,b,z0,_⟩,_⟩:=hz;exact ⟨_,z0,rfl⟩
 refine wpAny_pyIter_slot hT F.slot_zip_iter (wpAny_call_entry F.slot_zip_iter hT F.entry_zip_iter ?_ (F.args_zip_iter_1 _));show wpAny _ _ (ret (.ref z)) _ _ s
 exact wpAny_pure ⟨_,rfl,"zip",_,hT,F.slot_zip_next.lookup,h⟩
end
section
variable {prog:Program} {w:World} {A:Around} {E:Value→Shared→Prop} {s:Shared} {c1 c2:Bool} {z TI TO i1 i2 l1 l2:Addr} {xs ys:Array Value} {i:Nat}
theorem Zst.keep {h h':Heap} (x:Zst c1 c2 z TI TO i1 i2 l1 l2 xs ys i h) (k:∀c∈[z,TI,TO,i1,i2],∀o,h.get? c=some o→h'.get? c=some o) (k1:∀o,h.get? l1=some o→h'.get? l1=some o) (k2:∀o,h.get? l2=some o→h'.get? l2=some o):Zst c1 c2 z TI TO i1 i2 l1 l2 xs ys i h':=ZsI.keep og og x k k1 k2
theorem Lr {x y:Value} {Q:Option Value→Shared→Prop} (D:ZipApart z TI TO i1 i2 l1 l2) (hz:Zst c1 c2 z TI TO i1 i2 l1 l2 xs ys i s.heap) (hx:xs[i]?=some x) (hy:ys[i]?=some y)
  (hQ:∀h',Zst c1 c2 z TI TO i1 i2 l1 l2 xs ys (i+1) h'→IsPair h' s.heap.objs.size x y→h'.objs.size=s.heap.objs.size+1→(∀c o,c≠z→c≠TO→c≠i1→c≠i2→s.heap.get? c=some o→h'.get? c=some o)→Q (some (.ref s.heap.objs.size)) { s with heap:=h' }):
  wpAny (model prog w) A (pyNext (.ref z)) Q E s:=Ql og og D hz hx hy hQ
theorem pyFin {Q:Option Value→Shared→Prop} (hh:A.handled=none) (D:ZipApart z TI TO i1 i2 l1 l2) (hz:Zst c1 c2 z TI TO i1 i2 l1 l2 xs ys i s.heap) (hx:xs[i]?=none)
  (hQ:∀h',(∀c o,c≠z→c≠TO→c≠i1→c≠i2→s.heap.get? c=some o→h'.get? c=some o)→Q none { s with heap:=h' }):wpAny (model prog w) A (pyNext (.ref z)) Q E s:=pyFinI og hh D hz hx hQ
theorem Nn {Q:Value→Shared→Prop} (hz:Zst c1 c2 z TI TO i1 i2 l1 l2 xs ys i s.heap) (h:Q (.ref z) s):wpAny (model prog w) A (pyIter (.ref z)) Q E s:=Qk hz h
end
theorem My (h:Heap) (o1 o2:Obj) (f1:o1.isFreed=false) (f2:o2.isFreed=false):∃h5,h5=((((h.push o1).push o2).push { cls:=.type "tuple",data:=.seq #[.ref h.objs.size,.ref (h.objs.size+1)] }).push { cls:=.type "tuple",data:=.seq #[.none,.none] }).push { cls:=.type "zip",data:=.fields #[.none,.bool false,.bool false,.ref (h.objs.size+2),.ref (h.objs.size+3)] }∧
  IsZ h5 (h.objs.size+4) (h.objs.size+2) (h.objs.size+3) .none (.bool false)∧IsPair h5 (h.objs.size+3) .none .none∧IsPair h5 (h.objs.size+2) (.ref h.objs.size) (.ref (h.objs.size+1))∧h5.get? h.objs.size=some o1∧h5.get? (h.objs.size+1)=some o2∧h5.objs.size=h.objs.size+5∧∀c o,h.get? c=some o→h5.get? c=some o:=by
 have lay:∀(h:Heap) (o:Obj),o.isFreed=false→∃h',h'=h.push o∧h'.get? h.objs.size=some o∧h'.objs.size=h.objs.size+1∧∀c o,h.get? c=some o→h'.get? c=some o:=λh o f=>⟨_,rfl,Heap.get?_push_size _ f,Heap.size_push ..,λc o e=>Heap.get?_push_of_some _ e⟩;obtain ⟨h1,q1,e1,n1,k1⟩:=lay h o1 f1;obtain ⟨h2,q2,e2,n2,k2⟩:=lay h1 o2 f2;obtain ⟨h3,q3,e3,n3,k3⟩:=lay h2 { cls:=.type "tuple",data:=.seq #[.ref h.objs.size,.ref (h.objs.size+1)] } rfl;obtain ⟨h4,q4,e4,n4,k4⟩:=lay h3 { cls:=.type "tuple",data:=.seq #[.none,.none] } rfl;obtain ⟨h5,q5,e5,n5,k5⟩:=lay h4 { cls:=.type "zip",data:=.fields #[.none,.bool false,.bool false,.ref (h.objs.size+2),.ref (h.objs.size+3)] } rfl;rw[n4,n3,n2,n1] at e5 n5;rw[n3,n2,n1] at e4;rw[n2,n1] at e3;rw[n1] at e2;exact ⟨h5,by rw[q5,q4,q3,q2,q1],e5,k5 _ _ e4,k5 _ _ (k4 _ _ e3),k5 _ _ (k4 _ _ (k3 _ _ (k2 _ _ e1))),k5 _ _ (k4 _ _ (k3 _ _ e2)),n5,λc o e=>k5 _ _ (k4 _ _ (k3 _ _ (k2 _ _ (k1 _ _ e))))⟩
theorem new_tl (l1 l2:Addr) (xs ys:Array Value):
  Meets (Builtin.«zip.__new__» ⟨[.type "zip",.ref l1,.ref l2],[]⟩) (λ_ R s=>s.heap.IsTuple l1 xs∧s.heap.IsList l2 ys∧
   R (.ok (.ret (.ref (s.heap.objs.size+4)))) { s with heap:=((((s.heap.push { cls:=.type "tuple_iterator",data:=.fields #[.ref l1,.int 0 0] }).push { cls:=.type "list_iterator",data:=.fields #[.ref l2,.int 0 0] }).push { cls:=.type "tuple",data:=.seq #[.ref s.heap.objs.size,.ref (s.heap.objs.size+1)] }).push { cls:=.type "tuple",data:=.seq #[.none,.none] }).push { cls:=.type "zip",data:=.fields #[.none,.bool false,.bool false,.ref (s.heap.objs.size+2),.ref (s.heap.objs.size+3)] } }):=
 .of_wp λprog w A R s h=>by
  obtain ⟨hp,g,d,tk,os⟩:=s;obtain ⟨hl1,hl2,h⟩:=h;have hsub:=sub_zip;have hL1:Heap.IsTuple (Shared.heap ⟨hp,g,d,tk,os⟩) l1 xs:=hl1;have hL2:Heap.IsList (Shared.heap ⟨hp.push { cls:=.type "tuple_iterator",data:=.fields #[.ref l1,.int 0 0] },g,d,tk,os⟩) l2 ys:=Heap.IsList.push hl2 _;simp only[←Heap.size_push] at h;wp_walk using wpAny_pyIter_tuple hL1,wpAny_pyIter_list hL2
  simp only[Heap.size_push] at h ⊢;exact ⟨_,rfl,h⟩
section
variable {prog:Program} {w:World} {A:Around} {E:Value→Shared→Prop} {s:Shared}
theorem Og {l1 l2:Addr} {xs ys:Array Value} {Q:Value→Shared→Prop} (hl1:s.heap.IsTuple l1 xs) (hl2:s.heap.IsList l2 ys)
  (h:∀h',Zst true false (s.heap.objs.size+4) (s.heap.objs.size+2) (s.heap.objs.size+3) s.heap.objs.size (s.heap.objs.size+1) l1 l2 xs ys 0 h'→h'.objs.size=s.heap.objs.size+5→
   (∀c o,s.heap.get? c=some o→h'.get? c=some o)→Q (.ref (s.heap.objs.size+4)) { s with heap:=h' }):
  wpAny (model prog w) A (call (.type "zip") [.ref l1,.ref l2]) Q E s:=by
 refine callType_new F.called_zip (by decide) (F.typeCall_zip_2 _ _) (F.newCall_zip_2 _ _) (λobj=>F.args_object_init_3 obj _ _) F.entry_zip_new (new_tl l1 l2 xs ys) ⟨hl1,hl2,?_⟩;obtain ⟨h5,q5,e5,e4,e3,e1,e2,n5,up⟩:=My s.heap { cls:=.type "tuple_iterator",data:=.fields #[.ref l1,.int 0 0] } { cls:=.type "list_iterator",data:=.fields #[.ref l2,.int 0 0] } rfl rfl;rw[←q5];obtain ⟨o1,g1,r1⟩:=hl1;obtain ⟨o2,g2,r2⟩:=hl2;exact ⟨⟨_,e5,rfl⟩,h _ ⟨⟨.none,false,e5,.inl rfl⟩,⟨_,_,e4⟩,e3,⟨⟨_,e1,rfl,rfl⟩,⟨o1,up _ _ g1,r1⟩⟩,⟨⟨_,e2,rfl,rfl⟩,⟨o2,up _ _ g2,r2⟩⟩⟩ n5 up⟩
theorem Ph {l1 l2:Addr} {xs ys:Array Value} {Q:Value→Shared→Prop} (hl1:s.heap.IsList l1 xs) (hl2:s.heap.IsList l2 ys)
  (h:∀h',Zst false false (s.heap.objs.size+4) (s.heap.objs.size+2) (s.heap.objs.size+3) s.heap.objs.size (s.heap.objs.size+1) l1 l2 xs ys 0 h'→h'.objs.size=s.heap.objs.size+5→
   (∀c o,s.heap.get? c=some o→h'.get? c=some o)→Q (.ref (s.heap.objs.size+4)) { s with heap:=h' }):
  wpAny (model prog w) A (call (.type "zip") [.ref l1,.ref l2]) Q E s:=
 call_zip_2 hl1 hl2 λh' a1 a2 a3 a4 a5 a6 keep=>h h' ⟨⟨.none,false,a1,.inl rfl⟩,⟨_,_,a3⟩,a2,⟨a4,hl1.at λo e=>keep _ o e⟩,⟨a5,hl2.at λo e=>keep _ o e⟩⟩ a6 keep
end
structure Mk (xs ys:Array Value) (lo:Addr) (h:Heap) (as:List Addr):Prop where
 nd:as.Nodup
 up:∀a∈as,lo < a
 at':∀(j:Nat) (a:Addr),as[j]?=some a→∃x y,xs[j]?=some x∧ys[j]?=some y∧IsPair h a x y
section
variable {prog:Program} {w:World} {A:Around} {s:Shared} {R:Result→Shared→Prop} {c1 c2:Bool} {z TI TO i1 i2 l1 l2 S:Addr} {xs ys:Array Value}
theorem loop (hh:A.handled=none) (D:ZipApart z TI TO i1 i2 l1 l2) (hS:S∉[z,TI,TO,i1,i2,l1,l2]) (lo:Addr) (hlo:z≤lo∧TO≤lo∧i1≤lo∧i2≤lo∧S≤lo) (hn:xs.size=ys.size) (hz:xs.size≤sizeLine) (res:Value) {h₁:Heap}
  (hR:∀h' tk acc c as,(∀b o,b∉[S,z,TO,i1,i2]→h₁.get? b=some o→h'.get? b=some o)→h'.get? S=some { cls:=.type "list",dict:=none,data:=.seq acc c,slots:=#[] }→as.length=xs.size→Mk xs ys lo h' as→
   acc.toList=as.map Value.ref→R (.ok (.ret res)) { s with heap:=h',toks:=tk }):
  ∀(k i:Nat) (h:Heap) (tk c:Nat) (acc:Array Value) (as:List Addr),xs.size - i=k→i≤xs.size→Zst c1 c2 z TI TO i1 i2 l1 l2 xs ys i h→(∀b o,b∉[S,z,TO,i1,i2]→h₁.get? b=some o→h.get? b=some o)→
   h.get? S=some { cls:=.type "list",dict:=none,data:=.seq acc c,slots:=#[] }→acc.toList=as.map Value.ref→as.length=i→Mk xs ys lo h as→lo < h.objs.size→
   codeAny (model prog w) A (.builtin "list.extend.loop" ⟨[.ref S,.ref z,res],[]⟩) R { s with heap:=h,toks:=tk }:=by
 simp only[aal,aa8,or_false,not_or] at hS;obtain ⟨Sz,STI,STO,S1,S2,Sl1,Sl2⟩:=hS;intro k;induction k with
 | zero=>
  intro i h tk c acc as hk hi hst hkeep hSl hacc hal hG hIs;refine codeAny_builtin PySem.F.entry_extend_loop ?_;rw[Around.under_plainId PySem.F.plain_extend_loop _];show wpAny _ A.in1 (pyNext (.ref z) >>=_) _ _ _
  refine wpAny_bind (pyFin (s:={ s with heap:=h,toks:=tk }) (A:=A.in1) hh D hst (Array.getElem?_eq_none (by omega)) λh' he=>?_);refine wpAny_pure (hR h' tk acc c as (λb o hb e=>?_) (he S _ Sz STO S1 S2 hSl) (by omega) ⟨hG.nd,hG.up,λj a hj=>?_⟩ hacc)
  ·have hb':=hb;simp only[aal,aa8,or_false,not_or] at hb';exact he b o hb'.2.1 hb'.2.2.1 hb'.2.2.2.1 hb'.2.2.2.2 (hkeep b o hb e)
  ·obtain ⟨x,y,g1,g2,g3⟩:=hG.at' j a hj;have u:=hG.up a (aaf hj);have ne:∀{c:Addr},c≤lo→a≠c:=λq=>abc (acu q u);exact ⟨x,y,g1,g2,he a _ (ne hlo.1) (ne hlo.2.1) (ne hlo.2.2.1) (ne hlo.2.2.2.1) g3⟩
 | succ k ih=>
  intro i h tk c acc as hk hi hst hkeep hSl hacc hal hG hIs;have hlt:i < xs.size:=by omega
  have hsz:acc.size=i:=by rw[←ac0,hacc,aa1,hal]
  refine codeAny_builtin PySem.F.entry_extend_loop ?_;rw[Around.under_plainId PySem.F.plain_extend_loop _];show wpAny _ A.in1 (pyNext (.ref z) >>=_) _ _ _
  refine wpAny_bind (Lr (s:={ s with heap:=h,toks:=tk }) D hst (abk hlt) (abk (by omega)) λh' hst' ht hz' hkp=>?_);dsimp only at ht hz' hkp ⊢;have hS':=hkp S _ Sz STO S1 S2 hSl;have up:∀b o,b≠S→h'.get? b=some o→(h'.update S (Obj.mapSeq (·.push (Value.ref h.objs.size)))).get? b=some o:=λb o hb e=>(Heap.get?_update_other _ _ (Ne.symm hb)).trans e;have hSs:S < h.objs.size:=Heap.lt_size hSl;show wpAny _ A.in1 (updateSeq S (·.push (Value.ref h.objs.size)) >>=_) _ _ _
  refine wpAny_bind ?_;refine wpAny_updateSeq hS' rfl (wpAny_pure ⟨plainId_quiet PySem.F.plain_extend_loop _,ih (i+1) _ tk _ (acc.push (Value.ref h.objs.size)) (as++[h.objs.size]) (by omega) hlt
   (hst'.keep (λb hb o e=>up b o (λx=>by subst x;simp only[aal,aa8,or_false] at hb;rcases hb with q | q | q | q | q <;> exact absurd q (by assumption)) e) (λo e=>up _ o (Ne.symm Sl1) e) λo e=>up _ o (Ne.symm Sl2) e)
   (λb o hb e=>?_) (Heap.get?_update_self _ hS' rfl) (by rw[aeu,hacc,aa6];rfl) (by rw[aa2,hal];rfl) ⟨?_,?_,?_⟩ ?_⟩) (by rw[hsz];omega) (by show (acc.push (Value.ref h.objs.size)).size≤sizeLine+1;rw[Array.size_push,hsz];omega)
  ·have hb':=hb;simp only[aal,aa8,or_false,not_or] at hb';exact up b o hb'.1 (hkp b o hb'.2.1 hb'.2.2.1 hb'.2.2.2.1 hb'.2.2.2.2 (hkeep b o hb e))
  ·refine List.nodup_append.mpr ⟨hG.nd,(by simp),λa ha b hb=>?_⟩;rw[List.mem_singleton.mp hb];obtain ⟨j,hj⟩:=List.mem_iff_getElem?.mp ha;obtain ⟨_,_,_,_,e3⟩:=hG.at' j a hj;exact aao (Heap.lt_size e3)
  ·intro a ha;rcases List.mem_append.mp ha with ha | ha
   ·exact hG.up a ha
   ·rw[List.mem_singleton.mp ha];exact hIs
  ·intro j b hj;rcases aet j as.length with g | g | g
   ·rw[aag g] at hj;obtain ⟨x,y,e1,e2,e3⟩:=hG.at' j b hj;have u:=hG.up b (aaf hj);have ne:∀{c:Addr},c≤lo→b≠c:=λq=>abc (acu q u);exact ⟨x,y,e1,e2,up b _ (ne hlo.2.2.2.2) (hkp b _ (ne hlo.1) (ne hlo.2.1) (ne hlo.2.2.1) (ne hlo.2.2.2.1) e3)⟩
   ·subst g;have hb:h.objs.size=b:=by simpa using hj
    subst hb;exact ⟨_,_,by rw[hal];exact abk hlt,by rw[hal];exact abk (by omega),up _ _ (abc hSs) ht⟩
   ·have hnone:(as++[h.objs.size])[j]?=none:=ab9 (by rw[aa2,aac];omega);rw[hnone] at hj;cases hj
  ·rw[Heap.size_update,hz'];exact acj hIs
end
theorem Es:typeLookup (.type "zip") "__len__"=pure none:=by rw[typeLookup_type,builtinLookup_eq_fast];kernel_rfl
theorem Q5:typeLookup (.type "zip") "__length_hint__"=pure none:=by rw[typeLookup_type,builtinLookup_eq_fast];kernel_rfl
section
variable {prog:Program} {w:World} {A:Around} {E:Value→Shared→Prop} {s:Shared} {c1 c2:Bool} {z TI TO i1 i2 l1 l2:Addr} {xs ys:Array Value}
theorem extend {R:Result→Shared→Prop} (hh:A.handled=none) (D:ZipApart z TI TO i1 i2 l1 l2) (hz:Zst c1 c2 z TI TO i1 i2 l1 l2 xs ys 0 s.heap) (S:Addr) (hS:S∉[z,TI,TO,i1,i2,l1,l2]) (lo:Addr) (hlo:z≤lo∧TO≤lo∧i1≤lo∧i2≤lo∧S≤lo) (hls:lo < s.heap.objs.size) (hn:xs.size=ys.size) (hsz:xs.size≤sizeLine) (res:Value) (c₀:Nat) (hSl:s.heap.get? S=some { cls:=.type "list",data:=.seq #[] c₀ })
  (hR:∀h' tk acc c as,(∀b o,b∉[S,z,TO,i1,i2]→s.heap.get? b=some o→h'.get? b=some o)→h'.get? S=some { cls:=.type "list",dict:=none,data:=.seq acc c,slots:=#[] }→as.length=xs.size→Mk xs ys lo h' as→
   acc.toList=as.map Value.ref→R (.ok (.ret res)) { s with heap:=h',toks:=tk }):
  wpAny (model prog w) A.in1 (Builtin.List.listExtendWith (.ref S) (.ref z) res)
   (λfin s'=>match fin with | .done f=>R (.ok f) s' | .again c'=>c'.quiet=true∧codeAny (model prog w) A c' R s') (λe s'=>R (.error e) s') s:=by
 have hT:s.TypeIs (.ref z) "zip":=by obtain ⟨⟨f0,b,z0,_⟩,_⟩:=hz;exact ⟨_,z0,rfl⟩
 have hSz:S≠z:=λe=>hS (by simp[e]);unfold Builtin.List.listExtendWith;refine wpAny_bind (wpAny_typeOf hT ?_);have h1:Builtin.List.listSameRef (.ref S) (.ref z)=false:=by simp[Builtin.List.listSameRef,hSz]
 have h2:(Value.type "zip"==Value.type "list")=false:=by decide
 have h3:(Value.type "zip"==Value.type "tuple")=false:=by decide
 simp only[h1,h2,h3,ads,ab6,if_false];refine wpAny_bind (Nn hz ?_);refine wpAny_bind (wpAny_holding ?_);unfold Builtin.List.listLengthHint;refine wpAny_bind (wpAny_specialOf hT Es ?_);show wpAny _ A.in1 (specialOf (Value.ref z) (Str.ofString "__length_hint__") >>=_) _ _ _
 refine wpAny_bind (wpAny_specialOf hT Q5 ?_);refine wpAny_pure ?_;show wpAny _ A.in1 (rule "list.extend.makes-room" >>=λ_=>Builtin.List.listTouch (.ref S) >>=λ_=>again (.builtin "list.extend.loop" ⟨[.ref S,.ref z,res],[]⟩)) _ _ _
 refine wpAny_bind (wpAny_rule ?_);refine wpAny_bind ?_;show wpAny _ A.in1 (updateSeq S (·.push .none) >>=λ_=>updateSeq S (·.pop)) _ _ _
 refine wpAny_bind (wpAny_updateSeq hSl rfl ?_);have hS₂:=Heap.get?_update_self (Obj.mapSeq (·.push Value.none)) hSl rfl;refine wpAny_updateSeq (hz:=by seq_fits) hS₂ rfl ?_;have hS₃:=Heap.get?_update_self (Obj.mapSeq (·.pop)) hS₂ rfl;have oth:∀b o,b≠S→s.heap.get? b=some o→((s.heap.update S (Obj.mapSeq (·.push Value.none))).update S (Obj.mapSeq (·.pop))).get? b=some o:=λb o hb e=>(Heap.get?_update_other _ _ (Ne.symm hb)).trans ((Heap.get?_update_other _ _ (Ne.symm hb)).trans e);have hS':=hS;simp only[aal,aa8,or_false,not_or] at hS';refine wpAny_pure ⟨plainId_quiet PySem.F.plain_extend_loop _,loop (s:=s) (h₁:=s.heap) hh D hS lo hlo hn hsz res hR xs.size 0 _ _ _ #[] [] (ace _) (aa7 _) (hz.keep (λb hb o e=>oth b o (λx=>?_) e) (λo e=>oth _ o (Ne.symm hS'.2.2.2.2.2.1) e) λo e=>oth _ o (Ne.symm hS'.2.2.2.2.2.2) e) (λb o hb e=>oth b o (λx=>hb (by simp[x])) e) hS₃ rfl rfl ⟨aca,(λ_ ha=>nomatch ha),(λj a hj=>by simp at hj)⟩ ?_⟩
 ·subst x;simp only[aal,aa8,or_false] at hb;rcases hb with q | q | q | q | q
  ·exact hS'.1 q
  ·exact hS'.2.1 q
  ·exact hS'.2.2.1 q
  ·exact hS'.2.2.2.1 q
  ·exact hS'.2.2.2.2.1 q
 ·rw[Heap.size_update,Heap.size_update];exact hls
theorem Qx {Q:Value→Shared→Prop} (hh:A.handled=none) (D:ZipApart z TI TO i1 i2 l1 l2) (hz:Zst c1 c2 z TI TO i1 i2 l1 l2 xs ys 0 s.heap) (hlt:∀b∈[z,TI,TO,i1,i2,l1,l2],b < s.heap.objs.size) (hn:xs.size=ys.size) (hsz:xs.size≤sizeLine)
  (hQ:∀h' tk acc c as,(∀b o,b∉[z,TO,i1,i2]→s.heap.get? b=some o→h'.get? b=some o)→h'.get? s.heap.objs.size=some { cls:=.type "list",dict:=none,data:=.seq acc c,slots:=#[] }→as.length=xs.size→Mk xs ys s.heap.objs.size h' as→
   acc.toList=as.map Value.ref→Q (.ref s.heap.objs.size) { s with heap:=h',toks:=tk }):
  wpAny (model prog w) A (call (.type "list") [.ref z]) Q E s:=by
 refine callType_codes (Q₁:=λobj s₁=>obj=.ref s.heap.objs.size∧s₁={ s with heap:=s.heap.push { cls:=.type "list",data:=.seq #[] } }) PySem.F.called_list (PySem.F.typeCall_list_1 _) PySem.F.entry_list_init
  (code_list_new _ ⟨rfl,rfl⟩) λobj s₁ h₁=>?_
 obtain ⟨rfl,rfl⟩:=h₁;have hS:(s.heap.push { cls:=.type "list",data:=.seq #[] }).get? s.heap.objs.size=some { cls:=.type "list",data:=.seq #[] }:=Heap.get?_push_size _ rfl;have hSf:s.heap.objs.size∉[z,TI,TO,i1,i2,l1,l2]:=λe=>abg _ (hlt _ e);have hz1:=hz.keep (h':=s.heap.push { cls:=.type "list",data:=.seq #[] }) (λb _ o e=>Heap.get?_push_of_some _ e) (λo e=>Heap.get?_push_of_some _ e) λo e=>Heap.get?_push_of_some _ e;refine ⟨⟨_,hS,rfl⟩,PySem.F.args_list_init_2 _ _,?_⟩;have z1:=hlt z (by simp);have z2:=hlt TO (by simp);have z3:=hlt i1 (by simp);have z4:=hlt i2 (by simp);show wpAny _ _ (do let old ←Builtin.List.listItems (.ref s.heap.objs.size);Builtin.List.listUpdate (.ref s.heap.objs.size) (λ_=>#[]);letGo old.toList.reverse;Builtin.List.listExtendWith (.ref s.heap.objs.size) (.ref z) .none) _ _ _
 refine wpAny_bind ?_;unfold Builtin.List.listItems;refine wpAny_bind (wpAny_seqItems hS rfl (wpAny_pure ?_));show wpAny _ _ (updateSeq s.heap.objs.size (λ_=>#[]) >>=λ_=>letGo (#[]:Array Value).toList.reverse >>=λ_=>Builtin.List.listExtendWith (.ref s.heap.objs.size) (.ref z) .none) _ _ _
 refine wpAny_bind (wpAny_updateSeq hS rfl ?_);have hS₂:=Heap.get?_update_self (Obj.mapSeq (λ_=>(#[]:Array Value))) hS rfl;have oth:∀b o,b≠s.heap.objs.size→(s.heap.push { cls:=.type "list",data:=.seq #[] }).get? b=some o→((s.heap.push { cls:=.type "list",data:=.seq #[] }).update s.heap.objs.size (Obj.mapSeq (λ_=>(#[]:Array Value)))).get? b=some o:=λb o hb e=>(Heap.get?_update_other _ _ (Ne.symm hb)).trans e;refine wpAny_bind (wpAny_letGo ?_);refine extend (A:=A.in1) hh D (hz1.keep (λb hb o e=>oth b o (aao (hlt b (by simp only[aal,aa8,or_false] at hb ⊢;rcases hb with q | q | q | q | q <;> simp[q]))) e) (λo e=>oth _ o (aao (hlt l1 (by simp))) e) λo e=>oth _ o (aao (hlt l2 (by simp))) e) _ hSf s.heap.objs.size ⟨abu z1,abu z2,abu z3,abu z4,aa4 _⟩ (by show _ < (Heap.update _ _ _).objs.size;rw[Heap.size_update,Heap.size_push];exact af1 _) hn hsz .none _ hS₂ λh' tk acc c as hk hS' hl hG hacc=>?_;exact ⟨rfl,hQ h' tk acc c as (λb o hb e=>hk b o (λx=>by
  rcases List.mem_cons.mp x with q | q
  ·exact abg _ (q ▸ Heap.lt_size e)
  ·exact hb q) (oth b o (aao (Heap.lt_size e)) (Heap.get?_push_of_some _ e))) hS' hl hG hacc⟩
end
end L2.Zg
namespace L2
open PySem PySem.Spec PyProof.Rows Zd Zg
theorem Nh:bootBuiltins "zip"=some (.type "zip"):=by decide+kernel
def SqB (K:PySem.W.Frag):Bool→Hp→Addr→List V→Prop
 | true,H,a,xs=>SqT K H a xs
 | false,H,a,xs=>SqL K H a xs
def itB:Bool→Heap→Addr→Addr→Nat→Prop
 | true,h,it,l,i=>h.IsTupleIter it l i
 | false,h,it,l,i=>h.IsListIter it l i
theorem itB.keep {b:Bool} {h h':Heap} {it l:Addr} {i:Nat} (x:itB b h it l i) (k:∀o,h.get? it=some o→h'.get? it=some o):itB b h' it l i:=by
 cases b
 ·obtain ⟨o,e,r⟩:=x;exact ⟨o,k _ e,r⟩
 ·obtain ⟨o,e,r⟩:=x;exact ⟨o,k _ e,r⟩
theorem itB.obj {b:Bool} {h:Heap} {it l:Addr} {i:Nat} (x:itB b h it l i):∃o,h.get? it=some o∧∀v,o.data≠.cell v:=by
 cases b
 ·obtain ⟨o,e,_,d⟩:=x;exact ⟨o,e,λv z=>by rw[d] at z;cases z⟩
 ·obtain ⟨o,e,_,d⟩:=x;exact ⟨o,e,λv z=>by rw[d] at z;cases z⟩
theorem zc {b:Bool} {it l:Addr} {xs:Array Value} {i:Nat} {h:Heap} (x:Hf b it l xs i h):itB b h it l i:=by
 cases b
 ·exact x.1
 ·exact x.1
def zpN (z TI TO i1 i2:Addr) (h:Heap):Prop:=(∃f0 b,IsZ h z TI TO f0 (.bool b)∧(f0=.none∨∃T:Addr,f0=rawInt T))∧(∃a b,IsPair h TO a b)∧IsPair h TI (.ref i1) (.ref i2)
section
variable {X:Cx} {pins:List (Addr×Obj)} {σ:St} {H:Hp} {s:Shared}
theorem Inv.sqB (I:Inv X pins σ H s) {b:Bool} {a:Addr} {xs:List V} (h:SqB X.K b H a xs):∃its:List Value,Vals xs its∧xs.length≤sizeLine∧a < s.heap.objs.size∧(∀it i,itB b s.heap it a i→Hf b it a its.toArray i s.heap)∧(b=true→s.heap.IsTuple a its.toArray)∧(b=false→s.heap.IsList a its.toArray):=by
 cases b
 ·obtain ⟨its,r,p,z⟩:=I.list h;refine ⟨its,r,z,?_,λit i q=>⟨q,p.isList⟩,(λe=>nomatch e),λ_=>p.isList⟩;obtain ⟨o,e,_⟩:=p.isList;exact Heap.lt_size e
 ·obtain ⟨its,r,p,z⟩:=I.tuple h;refine ⟨its,r,z,?_,λit i q=>⟨q,p⟩,(λ_=>p),(λe=>nomatch e)⟩;obtain ⟨o,e,_⟩:=p;exact Heap.lt_size e
theorem Inv.Gu (I:Inv X pins σ H s) {b:Bool} {a:Addr} {xs ys:List V} (h:SqB X.K b H a xs) (h':SqB X.K b H a ys):xs=ys:=by
 cases b
 ·exact I.tm h h'
 ·exact I.we h h'
end
noncomputable def Itz (K:PySem.W.Frag) (c1 c2:Bool) (l1 l2:Addr):It:=
  ⟨λi H=>∃xs ys x y,SqB K c1 H l1 xs∧SqB K c2 H l2 ys∧xs[i]?=some x∧ys[i]?=some y,
   λi H x H'=>∃p u v,(∀xs,SqB K c1 H l1 xs→xs[i]?=some u)∧(∀ys,SqB K c2 H l2 ys→ys[i]?=some v)∧H p=none∧x=.ref p∧H'=upd H p (.tup [u,v]),
   λi H=>∃xs ys,SqB K c1 H l1 xs∧SqB K c2 H l2 ys∧xs.length≤i⟩
theorem go_zip {P:Program} {w:World} {A:Around} {E:Value→Shared→Prop} {s:Shared} {tg:Expr} {z TI TO T:Addr} {f0:Value} {b:Bool} {Q:Unit→Shared→Prop} (ht:(∃x pos,tg=.Name x pos)∨∃es k pos,tg=.Tuple es k pos) (hz:IsZ s.heap z TI TO f0 (.bool b)) (hf:f0=.none∨∃T:Addr,f0=rawInt T)
  (q:∀h' f1,IsZ h' z TI TO f1 (.bool b)→(f1=.none∨∃T:Addr,f1=rawInt T)→Heap.SameBut z s.heap h'→Q () { s with heap:=h' }):wpAny (model P w) A (letOwnedTupleGo tg (.ref z) (.ref T)) Q E s:=by
 rcases ht with ⟨x,pos,rfl⟩ | ⟨es,k,pos,rfl⟩
 ·exact wpAny_pure (q s.heap f0 hz hf (Heap.SameBut.refl _ _))
 ·unfold letOwnedTupleGo;refine wpAny_bind (wpAny_load hz ?_);show wpAny _ _ (if (["enumerate","zip","dict_itemiterator","dict_reverseitemiterator","odict_iterator","itertools.zip_longest","itertools.pairwise"].contains "zip"&&(#[f0,.bool b,.bool false,.ref TI,.ref TO]:Array Value)[0]?==some (rawInt T))=true then _ else _) Q E s
  refine wpAny_ite_split (λ_=>wpAny_bind (wpAny_rule ?_)) λ_=>wpAny_pure (q s.heap f0 hz hf (Heap.SameBut.refl _ _));show wpAny _ _ (setField (.ref z) 0 .none) Q E s
  exact wpAny_setField_rec hz (by simp) λh' hz' hs'=>q h' .none hz' (.inl rfl) hs'
theorem Nd {P:Program} {w:World} {K:PySem.W.Frag} {tg:Expr} {c1 c2:Bool} (z TI TO i1 i2 l1 l2:Addr) (D:ZipApart z TI TO i1 i2 l1 l2) (ht:(∃x pos,tg=.Name x pos)∨∃es k pos,tg=.Tuple es k pos):
  Turn P w K tg (Itz K c1 c2 l1 l2) [z,TI,TO,i1,i2] z (λi h=>zpN z TI TO i1 i2 h∧itB c1 h i1 l1 i∧itB c2 h i2 l2 i) where
 mem:=by simp
 obj:=λi h st b hb=>by
  obtain ⟨⟨⟨f0,b0,a1,_⟩,⟨p,q,a2⟩,a3⟩,a4,a5⟩:=st;simp only[aal,aa8,or_false] at hb;rcases hb with rfl | rfl | rfl | rfl | rfl
  ·exact ⟨_,a1,λv z=>by cases z⟩
  ·exact ⟨_,a3,λv z=>by cases z⟩
  ·exact ⟨_,a2,λv z=>by cases z⟩
  ·exact a4.obj
  ·exact a5.obj
 keep:=λi h h' st k=>by
  obtain ⟨⟨⟨f0,b0,a1,a0⟩,⟨p,q,a2⟩,a3⟩,a4,a5⟩:=st;exact ⟨⟨⟨f0,b0,k z (by simp) _ a1,a0⟩,⟨p,q,k TO (by simp) _ a2⟩,k TI (by simp) _ a3⟩,a4.keep (k i1 (by simp)),a5.keep (k i2 (by simp))⟩
 item:=by
  intro X hP hw hK hc i pins s σ H E I hf st hg;subst hP hw hK;obtain ⟨xs,ys,x,y,hq1,hq2,hx,hy⟩:=hg;obtain ⟨⟨a1,a2,a3⟩,a4,a5⟩:=st;obtain ⟨its1,rv1,_,_,f1,_,_⟩:=I.sqB hq1;obtain ⟨its2,rv2,_,_,f2,_,_⟩:=I.sqB hq2;obtain ⟨u,hu,ru⟩:=rv1.get hx;obtain ⟨v,hv,rv⟩:=rv2.get hy;have fpl:∀b∈[z,TI,TO,i1,i2],b < s.heap.objs.size:=λb hb=>by
   obtain ⟨f0,b0,e1,_⟩:=a1;obtain ⟨p,q,e2⟩:=a2;obtain ⟨_,e4,_⟩:=a4.obj;obtain ⟨_,e5,_⟩:=a5.obj;simp only[aal,aa8,or_false] at hb;rcases hb with rfl | rfl | rfl | rfl | rfl
   ·exact Heap.lt_size e1
   ·exact Heap.lt_size a3
   ·exact Heap.lt_size e2
   ·exact Heap.lt_size e4
   ·exact Heap.lt_size e5
  refine Lr (c1:=c1) (c2:=c2) (xs:=its1.toArray) (ys:=its2.toArray) (i:=i) (x:=u) (y:=v) D ⟨a1,a2,a3,f1 _ _ a4,f2 _ _ a5⟩ (by simpa using hu) (by simpa using hv) λh1 zs1 hT hz1 hk1=>⟨_,rfl,?_⟩;obtain ⟨⟨f0,b0,e0,g0⟩,⟨p,q,e2⟩,e3,e4,e5⟩:=zs1;refine go_zip ht e0 g0 λh2 f3 e0' g0' sb=>?_;have sb:Heap.SameBut z h1 h2:=sb;have hfr:H s.heap.objs.size=none:=I.hok.fresh (aa4 _);have I1:Inv X pins σ (upd H s.heap.objs.size (.tup [x,y])) { s with heap:=s.heap.push { cls:=.type "tuple",data:=.seq #[u,v] },toks:=s.toks }:=
   I.laid (λb o' e'=>Heap.get?_push_of_some _ e') (aa4 _) (show b7 X.prog X.w _ _ _ (.tup [x,y]) from ⟨by show (2:Nat)≤sizeLine;decide,[u,v],.cons ru (.cons rv .nil),⟨_,Heap.get?_push_size _ rfl,rfl,_,rfl,rfl⟩⟩)
  have nup:∀b,b < s.heap.objs.size→(upd H s.heap.objs.size (.tup [x,y])) b=H b:=λb hb=>ag (aao hb);have zl:=fpl z (by simp);have I2:=Inv.G4 (h':=h2) (t':=s.toks) (fp:=[z,TI,TO,i1,i2]) I1 (λb o' hb e'=>by
   simp only[aal,aa8,or_false,not_or] at hb;have e':(s.heap.push { cls:=.type "tuple",data:=.seq #[u,v] }).get? b=some o':=e';by_cases hbs:b=s.heap.objs.size
   ·subst hbs;rw[Heap.get?_push_size _ rfl] at e';cases e'
    exact (sb.2 _ hb.1).trans hT
   ·rw[Heap.get?_push_ne _ _ _ hbs] at e';exact (sb.2 _ hb.1).trans (hk1 b o' hb.1 hb.2.2.1 hb.2.2.2.1 hb.2.2.2.2 e')) λb hb=>by
   obtain ⟨f0,f⟩:=hf b hb;exact ⟨by rw[nup b (fpl b hb)];exact f0,f⟩
  exact ⟨.ref s.heap.objs.size,_,I2,rfl,⟨_,x,y,λzs hz=>by rw[I.Gu hz hq1];exact hx,λzs hz=>by rw[I.Gu hz hq2];exact hy,hfr,rfl,rfl⟩,⟨⟨⟨f3,b0,e0',g0'⟩,⟨p,q,sb.extBut _ _ D.TOz e2⟩,sb.extBut _ _ D.TIz e3⟩,(zc e4).keep λo e=>sb.extBut _ _ D.i1z e,(zc e5).keep λo e=>sb.extBut _ _ D.i2z e⟩,λb hb=>by rw[nup b (fpl b hb)];exact (hf b hb).1⟩
 done:=by
  intro X hP hw hK hc i pins s σ H E I hf st hg;subst hP hw hK;obtain ⟨xs,ys,hq1,hq2,hx⟩:=hg;obtain ⟨⟨a1,a2,a3⟩,a4,a5⟩:=st;obtain ⟨its1,rv1,_,_,f1,_,_⟩:=I.sqB hq1;obtain ⟨its2,rv2,_,_,f2,_,_⟩:=I.sqB hq2;have hl:=rv1.length;refine pyFin (c1:=c1) (c2:=c2) (xs:=its1.toArray) (ys:=its2.toArray) (i:=i) (I.ok.hd hc) D ⟨a1,a2,a3,f1 _ _ a4,f2 _ _ a5⟩ (by simp;omega) λh' hk=>⟨rfl,Inv.G4 (t':=s.toks) (fp:=[z,TI,TO,i1,i2]) I (λb o hb e=>?_) hf⟩;simp only[aal,aa8,or_false,not_or] at hb;exact hk b o hb.1 hb.2.2.1 hb.2.2.2.1 hb.2.2.2.2 e
 self:=λ_ _ _ _ _ st h=>by
  obtain ⟨⟨⟨f0,b0,a1,_⟩,_⟩,_⟩:=st;refine wpAny_pyIter_slot ⟨_,a1,rfl⟩ F.slot_zip_iter (wpAny_call_entry F.slot_zip_iter ⟨_,a1,rfl⟩ F.entry_zip_iter ?_ (F.args_zip_iter_1 _));exact wpAny_pure ⟨_,rfl,"zip",_,⟨_,a1,rfl⟩,F.slot_zip_next.lookup,h⟩
def iZip (K:PySem.W.Frag) (c:Bool) (ta:TA):TI:=λσ H R=>ta σ H λvs H1=>∃l1 l2 xs ys,vs=[.ref l1,.ref l2]∧SqB K c H1 l1 xs∧SqL K H1 l2 ys∧R (Itz K c false l1 l2) H1
section
variable {X:Cx}
theorem vf {pins:List (Addr×Obj)} {σ:St} {H:Hp} {s:Shared} {c:Bool} {l1 l2:Addr} {xs ys:List V} {A:Around} {E:Value→Shared→Prop} {Q:Value→Shared→Prop} (I:Inv X pins σ H s) (h1:SqB X.K c H l1 xs) (h2:SqL X.K H l2 ys)
  (q:∀(u v:List Value) (h':Heap),Vals xs u→Vals ys v→Zst c false (s.heap.objs.size+4) (s.heap.objs.size+2) (s.heap.objs.size+3) s.heap.objs.size (s.heap.objs.size+1) l1 l2 u.toArray v.toArray 0 h'→h'.objs.size=s.heap.objs.size+5→(∀c o,s.heap.get? c=some o→h'.get? c=some o)→l1 < s.heap.objs.size→l2 < s.heap.objs.size→Q (.ref (s.heap.objs.size+4)) { s with heap:=h' }):
  wpAny (model X.prog X.w) A (call (.type "zip") [.ref l1,.ref l2]) Q E s:=by
 obtain ⟨u,ru,_,lt1,_,t1,g1⟩:=I.sqB h1;obtain ⟨v,rv,_,lt2,_,t2,g2⟩:=I.sqB (b:=false) h2;cases c with
 | true=>exact Og (t1 rfl) (g2 rfl) λh' a b d=>q u v h' ru rv a b d lt1 lt2
 | false=>exact Ph (g1 rfl) (g2 rfl) λh' a b d=>q u v h' ru rv a b d lt1 lt2
theorem pi_zip {c:Bool} {a b:Expr} {ta:TA} {p pos:Pos} {tg:Expr} (hg:Gl X "zip") (hm:X.mg "zip"=none) (ht:(∃x pos,tg=.Name x pos)∨∃es k pos,tg=.Tuple es k pos) (ha:PA X [a,b] ta) (hs:starEach [a,b] X.env=(false,eval a X.env)::starEach [b] X.env:=by rfl) (hpl:(backTo pos (starEach [b] X.env)).any (·.1)=false:=by rfl):PI X tg (.Call (.Name "zip" p) [a,b] [] pos) (iZip X.K c ta):=by
 intro pins s σ H R I h;refine Call_ (gz I hg hm Nh (PyProof.Rows.callWith_type1 (thn (ha pos pins s σ H _ I h) λus s1 ⟨vs,H1,I1,r1,q1⟩=>?_) hs hpl));obtain ⟨l1,l2,xs,ys,rfl,e1,e2,q⟩:=q1;obtain ⟨u1,u2,rfl,ru1,ru2⟩:=vals2 r1;cases ru1
 cases ru2
 refine vf I1 e1 e2 λu v h' ru rv zs hz keep lt1 lt2=>?_;refine Nn zs ?_;obtain ⟨a1,a2,a3,a4,a5⟩:=zs;refine ⟨s1.heap.objs.size+4,[s1.heap.objs.size+4,s1.heap.objs.size+2,s1.heap.objs.size+3,s1.heap.objs.size,s1.heap.objs.size+1],_,_,H1,rfl,I1.kept (t':=s1.toks) keep,Nd _ _ _ _ _ l1 l2 (zipApart_new lt1 lt2) ht,⟨⟨a1,a2,a3⟩,zc a4,zc a5⟩,λb hb=>?_,q⟩;simp only[aal,aa8,or_false] at hb;rcases hb with rfl | rfl | rfl | rfl | rfl
 ·exact I1.wc (aay _ _) (I1.hok.fresh (aay _ _))
 ·exact I1.wc (aay _ _) (I1.hok.fresh (aay _ _))
 ·exact I1.wc (aay _ _) (I1.hok.fresh (aay _ _))
 ·exact I1.wc (aa4 _) (I1.hok.fresh (aa4 _))
 ·exact I1.wc (aay _ _) (I1.hok.fresh (aay _ _))
end
theorem Kq {K:PySem.W.Frag} {c:Bool} {l1 l2:Addr} {xs ys:List V} {g:TG} {tb:TS} {D:Ends} {σ:St} {H:Hp} (Pv:Nat→St→Hp→Prop) (h0:Pv 0 σ H) (hn:xs.length=ys.length) (hl:∀i σ H,i≤xs.length→Pv i σ H→SqB K c H l1 xs∧SqL K H l2 ys)
  (hs:∀i x y σ H p,xs[i]?=some x→ys[i]?=some y→Pv i σ H→H p=none→g (.ref p) σ (upd H p (.tup [x,y])) λσ2 H2=>tb { D with nx:=Pv (i+1),ct:=Pv (i+1),bk:=D.nx } σ2 H2) (hd:∀σ H,Pv xs.length σ H→D.nx σ H):En g tb D (Itz K c false l1 l2) σ H:=by
 refine ⟨λi m σ H=>m=xs.length - i∧i≤xs.length∧Pv i σ H,⟨xs.length,by simp,aa7 _,h0⟩,?_⟩;rintro i m σ H ⟨rfl,hi,p⟩;obtain ⟨q1,q2⟩:=hl i σ H hi p;by_cases hlt:i < xs.length
 ·refine .inr ⟨⟨xs,ys,_,_,q1,q2,aa0 hlt,aa0 (by omega)⟩,Pv (i+1),λσ' H' p'=>⟨xs.length - (i+1),by omega,rfl,hlt,p'⟩,λx H' y=>?_⟩;obtain ⟨t,u,v,hu,hv,hn,rfl,rfl⟩:=y;exact hs i u v σ H t (hu xs q1) (hv ys q2) p hn
 ·have e:i=xs.length:=by omega
  subst e;exact .inl ⟨⟨xs,ys,q1,q2,aa4 _⟩,hd σ H p⟩
noncomputable def ik (H:Hp) (N:Addr→Option HO):Hp:=λb=>match N b with | some o=>some o | none=>H b
theorem Inv.many {X:Cx} {pins:List (Addr×Obj)} {σ:St} {H:Hp} {s:Shared} {h':Heap} {t':Nat} {N:Addr→Option HO} (I:Inv X pins σ H s) (k:∀b u,s.heap.get? b=some u→h'.get? b=some u) (hp:∀a o,N a=some o→s.heap.objs.size≤a) (new:∀a o,N a=some o→b7 X.prog X.w (ik H N) h' a o):
  Inv X pins σ (ik H N) { s with heap:=h',toks:=t' }:=by
 have old:∀b,b < s.heap.objs.size→ik H N b=H b:=λb hb=>by
  unfold ik;cases e:N b with
  | none=>rfl
  | some o=>exact absurd (aam hb (hp b o e)) (abg _)
 have tr:∀b u,H b=some u→ik H N b=some u:=λb u e=>by rw[old b (I.hok.lt e)];exact e
 refine I.step (g':=s.gens) (d':=s.drawn) (ch:=[]) (λb hb=>nomatch hb) (λb o _ _ _ e _=>k b o e) (λb o _ _ _ e _=>⟨o.slots,k b o e⟩) (λb o _ e n=>by rw[old b (Heap.lt_size e)];exact n)
  (λb o _ e=>⟨o,k b o e⟩) (λb xs e=>tr b _ e) (λb o u e=>tr b _ e) (λb ps e=>⟨#[],by rw[tr b _ e];simp⟩) (λm hm=>hm.at λo e=>k _ o e) (λb u e=>?_) I.bare
 cases en:N b with
 | some o=>
  have:ik H N b=some o:=by unfold ik;rw[en]
  rw[this] at e;cases e
  exact new b _ en
 | none=>
  have:ik H N b=H b:=by unfold ik;rw[en]
  rw[this] at e;exact (I.hok b u e).Bi (λc v _ q=>k c v q) (λc q=>tr c _ q) λc xs q=>tr c _ q
theorem t6 {β:Type}:∀{as:List Addr} {ps:List β},as.Nodup→∀{j:Nat} {a:Addr} {p:β},as[j]?=some a→ps[j]?=some p→(as.zip ps).lookup a=some p
 | [],_,_,j,a,p,h,_=>by simp at h
 | _::_,[],_,j,a,p,_,h=>by simp at h
 | b::as,q::ps,nd,0,a,p,h1,h2=>by
  simp at h1 h2;subst h1 h2;simp[List.lookup]
 | b::as,q::ps,nd,j+1,a,p,h1,h2=>by
  simp only[ae6] at h1 h2;have hn:=List.nodup_cons.mp nd;have ne:a≠b:=λe=>hn.1 (e ▸ aaf h1);rw[adq,ae1];simp only[show (a==b)=false from beq_eq_false_iff_ne.mpr ne];exact t6 hn.2 h1 h2
theorem ui {β:Type}:∀{as:List Addr} {ps:List β} {a:Addr} {p:β},(as.zip ps).lookup a=some p→∃j:Nat,as[j]?=some a∧ps[j]?=some p
 | [],_,a,p,h=>by simp at h
 | _::_,[],a,p,h=>by simp at h
 | b::as,q::ps,a,p,h=>by
  rw[adq,ae1] at h;by_cases e:a=b
  ·simp only[show (a==b)=true from beq_iff_eq.mpr e] at h;cases h
   exact ⟨0,by rw[e];rfl,rfl⟩
  ·simp only[show (a==b)=false from beq_eq_false_iff_ne.mpr e] at h;obtain ⟨j,h1,h2⟩:=ui h;exact ⟨j+1,h1,h2⟩
theorem x5:∀as:List Addr,Vals (as.map V.ref) (as.map Value.ref)
 | []=>.nil
 | _::as=>.cons rfl (x5 as)
def tLZ (K:PySem.W.Frag) (ta:TA):TE:=λσ H Q=>ta σ H λvs H1=>∃(l1 l2:Addr) (xs ys:List V),vs=[.ref l1,.ref l2]∧SqT K H1 l1 xs∧SqL K H1 l2 ys∧xs.length=ys.length∧
 ∀(l:Addr) (as:List Addr) (H2:Hp),ah H1 H2→H1 l=none→as.length=xs.length→H2 l=some (.lst (as.map V.ref))→(∀(j:Nat) (x y:V),xs[j]?=some x→ys[j]?=some y→∃a,as[j]?=some a∧H2 a=some (.tup [x,y]))→Q (.ref l) H2
section
variable {X:Cx}
theorem Eu {a b:Expr} {ta:TA} {p p2 pos pos2:Pos} (hc:X.calm=true) (hg:Gl X "list") (hm:X.mg "list"=none) (hg2:Gl X "zip") (hm2:X.mg "zip"=none) (ha:PA X [a,b] ta)
  (hs:starEach [.Call (.Name "zip" p2) [a,b] [] pos2] X.env=[(false,eval (.Call (.Name "zip" p2) [a,b] [] pos2) X.env)]:=by rfl) (hs2:starEach [a,b] X.env=(false,eval a X.env)::starEach [b] X.env:=by rfl) (hpl:(backTo pos2 (starEach [b] X.env)).any (·.1)=false:=by rfl):
  PE X (.Call (.Name "list" p) [.Call (.Name "zip" p2) [a,b] [] pos2] [] pos) (tLZ X.K ta):=by
 intro pins s σ H Q I h;refine wpAny_Call_Name_kw (gz I hg hm Kd ?_);refine PyProof.Rows.callWith_type1 ?_ hs rfl;rw[hs];show wpAny _ _ (spliced ((false,eval _ X.env)::backTo pos [])) _ _ s
 refine Calls.spliced_cons ?_;refine wpAny_Call_Name_kw (gz I hg2 hm2 Nh ?_);refine PyProof.Rows.callWith_type1 (thn (ha pos2 pins s σ H _ I h) λus s1 ⟨vs,H1,I1,r1,q1⟩=>?_) hs2 hpl;obtain ⟨l1,l2,xs,ys,rfl,e1,e2,hl,q⟩:=q1;obtain ⟨u1,u2,rfl,ru1,ru2⟩:=vals2 r1;cases ru1
 cases ru2
 have zl:xs.length≤sizeLine:=by obtain ⟨_,_,_,z⟩:=I1.tuple e1;exact z
 refine vf (c:=true) I1 e1 e2 λu v h' ru rv zs hz keep lt1 lt2=>Calls.spliced_nil ?_;have n1:=ru.length;have n2:=rv.length;refine Qx (s:={ s1 with heap:=h' }) (I1.ok.hd hc) (zipApart_new lt1 lt2) zs (λb hb=>?_) (by rw[aa5,aa5];omega) (by rw[aa5];omega) λh2 tk acc c as kp hL hal hM hacc=>?_
 ·have hz':(Shared.heap { s1 with heap:=h' }).objs.size=s1.heap.objs.size+5:=hz;rw[hz'];simp only[aal,aa8,or_false] at hb;rcases hb with rfl | rfl | rfl | rfl | rfl | rfl | rfl
  ·exact acp (by decide) _
  ·exact acp (by decide) _
  ·exact acp (by decide) _
  ·exact Nat.lt_add_of_pos_right (by decide)
  ·exact acp (by decide) _
  ·exact aam lt1 (aay _ _)
  ·exact aam lt2 (aay _ _)
 have hM:Zg.Mk u.toArray v.toArray h'.objs.size h2 as:=hM;have kp:∀b o,b∉[s1.heap.objs.size+4,s1.heap.objs.size+3,s1.heap.objs.size,s1.heap.objs.size+1]→h'.get? b=some o→h2.get? b=some o:=kp;have hL:h2.get? h'.objs.size=some { cls:=.type "list",dict:=none,data:=.seq acc c,slots:=#[] }:=hL;rw[aa5] at hal;have le:s1.heap.objs.size≤h'.objs.size:=by rw[hz];exact aay _ _
 have k2:∀b o,s1.heap.get? b=some o→h2.get? b=some o:=λb o e=>kp b o (λz=>by
  have lt:=Heap.lt_size e;simp only[aal,aa8,or_false] at z;rcases z with rfl | rfl | rfl | rfl
  ·exact absurd lt (Nat.not_lt.mpr (aay _ _))
  ·exact absurd lt (Nat.not_lt.mpr (aay _ _))
  ·exact absurd lt (abg _)
  ·exact absurd lt (Nat.not_lt.mpr (aay _ _))) (keep b o e)
 let N:Addr→Option HO:=λb=>if b=h'.objs.size then some (.lst (as.map V.ref)) else ((as.zip (xs.zip ys)).lookup b).map λp=>.tup [p.1,p.2]
 have Nl:N h'.objs.size=some (.lst (as.map V.ref)):=if_pos rfl;have Na:∀(j:Nat) (a:Addr) (x y:V),as[j]?=some a→xs[j]?=some x→ys[j]?=some y→N a=some (.tup [x,y]):=λj a x y h1 h3 h4=>by
  show (if a=h'.objs.size then _ else _)=_
  rw[if_neg (abc (hM.up a (aaf h1)))];have:(xs.zip ys)[j]?=some (x,y):=List.getElem?_zip_eq_some.mpr ⟨h3,h4⟩;rw[t6 hM.nd h1 this];rfl
 have inv:∀a o,N a=some o→(a=h'.objs.size∧o=.lst (as.map V.ref))∨∃(j:Nat) (x y:V),as[j]?=some a∧xs[j]?=some x∧ys[j]?=some y∧o=.tup [x,y]:=λa o e=>by
  by_cases h:a=h'.objs.size
  ·subst h;rw[Nl] at e;exact .inl ⟨rfl,(aa3 e).symm⟩
  ·have e:(if a=h'.objs.size then _ else ((as.zip (xs.zip ys)).lookup a).map λp=>HO.tup [p.1,p.2])=some o:=e;rw[if_neg h] at e;obtain ⟨⟨x,y⟩,h1,h2⟩:=Option.map_eq_some_iff.mp e;obtain ⟨j,g1,g2⟩:=ui h1;obtain ⟨g3,g4⟩:=List.getElem?_zip_eq_some.mp g2;exact .inr ⟨j,x,y,g1,g3,g4,h2.symm⟩
 have lo:∀a o,N a=some o→s1.heap.objs.size≤a:=λa o e=>by
  rcases inv a o e with ⟨rfl,_⟩ | ⟨j,x,y,h1,_⟩
  ·exact le
  ·exact aar le (abu (hM.up a (aaf h1)))
 have I2:Inv X pins σ (ik H1 N) { s1 with heap:=h2,toks:=tk }:=I1.many k2 lo λa o e=>by
  rcases inv a o e with ⟨rfl,rfl⟩ | ⟨j,x,y,h1,h3,h4,rfl⟩
  ·refine ⟨by rw[aa1];omega,acc.toList,c,?_,by rw[aem];exact hL⟩;rw[hacc];exact x5 as
  ·obtain ⟨x',y',g1,g2,g3⟩:=hM.at' j a h1;obtain ⟨xu,hxu,rxu⟩:=ru.get h3;obtain ⟨yu,hyu,ryu⟩:=rv.get h4;rw[aef] at g1 g2;rw[hxu] at g1;rw[hyu] at g2;cases g1
   cases g2
   exact ⟨by show (2:Nat)≤sizeLine;decide,[x',y'],.cons rxu (.cons ryu .nil),⟨_,g3,rfl,_,rfl,rfl⟩⟩
 have same:ah H1 (ik H1 N):=λb o e=>by
  have lt:=I1.hok.lt e;unfold ik;cases en:N b with
  | none=>exact e
  | some o'=>exact absurd (aam lt (lo b o' en)) (abg _)
 refine ⟨.ref h'.objs.size,_,I2,rfl,q _ as _ same (I1.hok.fresh le) (by omega) (by unfold ik;rw[Nl]) λj x y h3 h4=>?_⟩;have hj:j < as.length:=by rw[hal,←n1];exact (List.getElem?_eq_some_iff.mp h3).1
 refine ⟨as[j],aa0 hj,?_⟩;unfold ik;rw[Na j as[j] x y (aa0 hj) h3 h4]
end
end L2
namespace L2
open PySem PySem.Spec PyProof.Rows
theorem Lb {K:PySem.W.Frag} {a:Addr} {xs:List V} {fr:L2.St} {tc:TT} {te:TE} {D:Addr} {H1:Hp} {Q:Hp→Prop} (P:Nat→List V→Hp→Prop) (mono:∀i ys H H',TK H H'→P i ys H→P i ys H') (hS:SqL K H1 a xs) (hn:xs.length < sizeLine) (hD:H1 D=none) (h0:P 0 [] H1)
  (step:∀i x ys H (G:Hp→Prop) (K':V→Hp→Prop),xs[i]?=some x→P i ys H→ys.length≤i→ah H1 H→(∀H3,ah H H3→P (i+1) ys H3→G H3)→(∀y H4,ah H H4→P (i+1) (ys++[y]) H4→K' y H4)→tc ([some x]++fr) H λb H3=>if b=true then te ([some x]++fr) H3 K' else G H3)
  (done:∀ys H,P xs.length ys H→ys.length≤xs.length→ah H1 H→H D=some (.lst ys)→Q H):LC 1 fr (cb 0) tc te (Itl K a) D H1 Q:=by
 have at':∀i,i < xs.length→xs[i]?=some (xs.getD i .non):=λi hi=>by
  rw[aae,aa0 hi];rfl
 exact Qs xs.length (λi=>xs.getD i .non) P mono hn hD (λi H hi hs=>⟨xs,_,hs.seq hS,at' i hi⟩)
  (λi H x H' hi hs hy=>⟨hy.1,aa3 ((hy.2 xs (hs.seq hS)).symm.trans (at' i hi))⟩) (λH hs=>⟨xs,hs.seq hS,aa4 _⟩) h0
  (λi ys H G K' hi hP hl hs hG hK=>step i _ ys H G K' (at' i hi) hP hl hs hG hK) done
section
variable {X:Cx} {pos:Pos} {tg:Expr}
theorem Gm (K:PySem.W.Frag) (hK:X.K=K) {es:List Expr} {k:Nat} {t:TGs} {n:Nat} (hc:X.calm=true) (h:PGs X es t) (hn:(assignEach es X.env).length=n:=by rfl) (hst:(assignEach es X.env).findIdx? (·.1)=none:=by rfl):PG X (.Tuple es k pos) (vw K n t):=by
 subst hK;exact Dx hc h hn hst
theorem xk (n:Nat):Builtin.Range.rangeSize ((n:Int) - 1) (-1) (-1)=n:=by
 unfold Builtin.Range.rangeSize;cases n with
 | zero=>decide
 | succ n=>
  simp;omega
theorem Mm {n:Nat} (h:n < 2 ^ 62):Builtin.Range.small ((n:Int) - 1) (-1) (-1)=true:=by
 unfold Builtin.Range.small;rw[xk];have e1:Builtin.Range.rangeFitsLong ((n:Int) - 1)=true:=by
  unfold Builtin.Range.rangeFitsLong;rw[decide_eq_true (show -(2:Int) ^ 63≤(n:Int) - 1 by omega),decide_eq_true (show (n:Int) - 1 < (2:Int) ^ 63 by omega)];rfl
 have e2:Builtin.Range.rangeFitsLong (n:Int)=true:=by
  unfold Builtin.Range.rangeFitsLong;rw[decide_eq_true (show -(2:Int) ^ 63≤(n:Int) by omega),decide_eq_true (show (n:Int) < (2:Int) ^ 63 by omega)];rfl
 rw[e1,e2,show Builtin.Range.rangeFitsLong (-1)=true by decide,if_neg (by decide),show Builtin.Range.rangeFitsLong (-1+(-1+1))=true by decide];simp
def iDn (ta:TA):TI:=λσ H R=>ta σ H λvs H1=>∃n:Nat,vs=[.int ((n:Int) - 1),.int (-1),.int (-1)]∧n < 2 ^ 62∧R (Itd n) H1
theorem Hh {a b c:Expr} {ta:TA} {p pos:Pos} (hg:Gl X "range") (hm:X.mg "range"=none) (ha:PA X [a,b,c] ta) (hs:starEach [a,b,c] X.env=(false,eval a X.env)::starEach [b,c] X.env:=by rfl) (hpl:(backTo pos (starEach [b,c] X.env)).any (·.1)=false:=by rfl):
  PI X tg (.Call (.Name "range" p) [a,b,c] [] pos) (iDn ta):=by
 intro pins s σ H R I h;refine Call_ (gz I hg hm boot_range (PyProof.Rows.callWith_type1 (thn (ha pos pins s σ H _ I h) λus s1 ⟨vs,H1,I1,r1,q1⟩=>?_) hs hpl));obtain ⟨n,rfl,hn,q⟩:=q1;cases r1 with
 | cons r rr=>
  cases rr with
  | cons r' rr=>
   cases rr with
   | cons r'' rr=>
    cases rr
    obtain ⟨t,rfl⟩:=r;obtain ⟨t',rfl⟩:=r';obtain ⟨t'',rfl⟩:=r'';refine call_range_3 (by decide) ?_ (.inl (PyProof.noPylong_small (by omega)));refine wpAny_pyIter_range (IsRange.new ..) (Mm hn) ?_;rw[xk];have I2:Inv X pins σ H1 { s1 with heap:=s1.heap.push { cls:=.type "range",data:=.fields #[.int ((n:Int) - 1) t,.int (-1) t',.int (-1) t''] },toks:=s1.toks }:=I1.kept λb o e=>Heap.get?_push_of_some _ e;refine ⟨(s1.heap.push { cls:=.type "range",data:=.fields #[.int ((n:Int) - 1) t,.int (-1) t',.int (-1) t''] }).objs.size,[(s1.heap.push { cls:=.type "range",data:=.fields #[.int ((n:Int) - 1) t,.int (-1) t',.int (-1) t''] }).objs.size],_,_,H1,rfl,I2.kept (t':=s1.toks) λb o e=>Heap.get?_push_of_some _ e,Im _ n,?_,λb hb=>?_,q⟩
    ·have e1:(n:Int) - 1+((0:Nat):Int)*(-1)=(n:Int) - 1:=by omega
     have e2:(n:Int) - ((0:Nat):Int)=(n:Int):=by omega
     show IsRangeIter _ _ ((n:Int) - 1+((0:Nat):Int)*(-1)) ((n:Int) - ((0:Nat):Int)) (-1)
     rw[e1,e2];exact Heap.get?_push_size _ rfl
    ·have e:b=(s1.heap.push { cls:=.type "range",data:=.fields #[.int ((n:Int) - 1) t,.int (-1) t',.int (-1) t''] }).objs.size:=by simpa using hb
     subst e;exact I2.wc (aa4 _) (I2.hok.fresh (aa4 _))
end
theorem Ri {n:Nat} {g:TG} {tb:TS} {D:Ends} {σ:St} {H:Hp} (Pv:Nat→St→Hp→Prop) (h0:Pv n σ H)
  (hs:∀i σ H,i < n→Pv (i+1) σ H→g (.int (i:Int)) σ H λσ2 H2=>tb { D with nx:=Pv i,ct:=Pv i,bk:=D.nx } σ2 H2) (hd:∀σ H,Pv 0 σ H→D.nx σ H):En g tb D (Itd n) σ H:=by
 refine ⟨λi m σ H=>m=n - i∧i≤n∧Pv (n - i) σ H,⟨n,by simp,aa7 _,by simpa using h0⟩,?_⟩;rintro i m σ H ⟨rfl,hi,p⟩;by_cases hlt:i < n
 ·refine .inr ⟨hlt,Pv (n - (i+1)),λσ' H' p'=>⟨n - (i+1),by omega,rfl,hlt,p'⟩,λx H' y=>?_⟩;obtain ⟨rfl,rfl⟩:=y;have e:(n:Int) - 1 - (i:Int)=((n - (i+1):Nat):Int):=by omega
  rw[e];exact hs (n - (i+1)) σ _ (by omega) (by rw[show n - (i+1)+1=n - i by omega];exact p)
 ·have e:i=n:=by omega
  subst e;exact .inl ⟨aa4 _,hd σ H (by simpa using p)⟩
theorem Ck {K:PySem.W.Frag} {c:Nat} {a:Addr} {as:List Addr} {fr:St} {tc:TT} {te:TE} {D:Addr} {H1:Hp} {Q:Hp→Prop} (P:Nat→List V→Hp→Prop) (mono:∀i ys H H',TK H H'→P i ys H→P i ys H') (hc:c=4) (hS:SqL K H1 a (as.map V.ref)) (hq:∀(i:Nat) (t:Addr),as[i]?=some t→∃x0 x1 x2 x3,H1 t=some (.tup [x0,x1,x2,x3])) (hn:as.length < sizeLine) (hD:H1 D=none) (h0:P 0 [] H1)
  (step:∀i t x0 x1 x2 x3 ys H (G:Hp→Prop) (K':V→Hp→Prop),as[i]?=some t→H1 t=some (.tup [x0,x1,x2,x3])→P i ys H→ys.length≤i→ah H1 H→(∀H3,ah H H3→P (i+1) ys H3→G H3)→(∀y H4,ah H H4→P (i+1) (ys++[y]) H4→K' y H4)→tc ([some x0,some x1,some x2,some x3]++fr) H λb H3=>if b=true then te ([some x0,some x1,some x2,some x3]++fr) H3 K' else G H3)
  (done:∀ys H,P as.length ys H→ys.length≤as.length→ah H1 H→H D=some (.lst ys)→Q H):LC 4 fr (vw K c (dr (cb 0) (dr (cb 1) (dr (cb 2) (dr (cb 3) Bx))))) tc te (Itl K a) D H1 Q:=by
 refine ⟨λi m H=>m=as.length - i∧i≤as.length∧∃ys,H D=some (.lst ys)∧P i ys H∧ys.length≤i∧ah H1 H,⟨as.length,by simp,aa7 _,[],ae,mono _ _ _ _ (TK.of (aa hD _)) h0,aa4 _,aa hD _⟩,?_⟩;rintro i m H ⟨rfl,hi,ys,hys,hP,hl,hS'⟩;by_cases hlt:i < as.length
 ·have ht:as[i]?=some as[i]:=aa0 hlt;have hti:(as.map V.ref)[i]?=some (.ref as[i]):=by rw[aaa,ht];rfl
  obtain ⟨x0,x1,x2,x3,hx⟩:=hq i _ ht;refine .inr ⟨⟨_,_,hS'.seq hS,hti⟩,λτ v H' hτ hy=>?_⟩;obtain ⟨rfl,hy⟩:=hy;have hv:v=.ref as[i]:=aa3 ((hy _ (hS'.seq hS)).symm.trans hti);subst hv;obtain ⟨a0,a1,a2,a3,rfl⟩:∃a b c d,τ=[a,b,c,d]:=us4 (P:=λτ=>∃a b c d,τ=[a,b,c,d]) hτ λa b c d=>⟨a,b,c,d,rfl⟩;refine ⟨as[i],_,rfl,SqT.of (hS' _ _ hx),by rw[hc];rfl,_,_,rfl,_,_,rfl,_,_,rfl,_,_,rfl,rfl,⟨[some x0,some x1,some x2,some x3],rfl,rfl⟩,step i as[i] x0 x1 x2 x3 ys _ _ _ ht hx hP hl hS' (λH3 q1 q2=>?_) (λy H4 q1 q2=>?_)⟩
  ·exact ⟨as.length - (i+1),by omega,rfl,hlt,ys,q1 _ _ hys,q2,ad5 hl,hS'.trans q1⟩
  ·refine ⟨ys,q1 _ _ hys,by omega,as.length - (i+1),by omega,rfl,hlt,ys++[y],ae,mono _ _ _ _ (TK.put (q1 _ _ hys) λxs e=>by cases e) q2,?_,(hS'.trans q1).upd hD _⟩;rw[aa2,aac];omega
 ·have e:i=as.length:=by omega
  subst e;exact .inl ⟨⟨_,hS'.seq hS,by rw[aa1];exact aa4 _⟩,done ys H hP hl hS' hys⟩
namespace Zd
end Zd
namespace Zd
end Zd
end L2
namespace Pc
open PySem PySem.Spec L2 PyProof.Rows Fm
abbrev Ky:=Nat×Str
noncomputable def kyK (k:Ky):List Key:=[Sum.inl (k.1:Int),Sum.inr k.2]
theorem Ad {a b:Ky} (h:kyK a=kyK b):a=b:=by
 obtain ⟨a1,a2⟩:=a;obtain ⟨b1,b2⟩:=b;unfold kyK at h;simp only[ac6,Sum.inl.injEq,Sum.inr.injEq,and_true] at h;rw[h.2,show a1=b1 by omega]
noncomputable def kyT (k:Ky):HO:=.tup [.int (k.1:Int),.str k.2]
def c9 (H:Hp) (d:Addr) (g:Ky→Option Int) (n:Nat):Prop:=∃kvs:List (List Key×V),H d=some (.dT kvs)∧kvs.length≤n∧∀k,cu kvs (kyK k)=(g k).map V.int
theorem c9.get {H:Hp} {d b:Addr} {g:Ky→Option Int} {n:Nat} {k:Ky} (h:c9 H d g n) (hb:H b=some (kyT k)):jv H d (.ref b) ((g k).map V.int):=by
 obtain ⟨kvs,h1,_,h3⟩:=h;rw[←h3 k];exact jv.t h1 hb
theorem c9.val {H:Hp} {d b:Addr} {g:Ky→Option Int} {n:Nat} {k:Ky} {v:Int} (h:c9 H d g n) (hb:H b=some (kyT k)) (e:g k=some v):jv H d (.ref b) (some (.int v)):=by
 have:=h.get hb;rw[e] at this;exact this
theorem c9.mono {H:Hp} {d:Addr} {g:Ky→Option Int} {n m:Nat} (h:c9 H d g n) (e:n≤m):c9 H d g m:=by
 obtain ⟨kvs,h1,h2,h3⟩:=h;exact ⟨kvs,h1,by omega,h3⟩
theorem c9.at {H H':Hp} {d:Addr} {g:Ky→Option Int} {n:Nat} (h:c9 H d g n) (e:∀o,H d=some o→H' d=some o):c9 H' d g n:=by
 obtain ⟨kvs,h1,h2⟩:=h;exact ⟨kvs,e _ h1,h2⟩
theorem c9.same {H H':Hp} {d:Addr} {g:Ky→Option Int} {n:Nat} (h:c9 H d g n) (s:ah H H'):c9 H' d g n:=h.at λo e=>s _ _ e
theorem c9.nil {H:Hp} {d:Addr}:c9 (upd H d (.dT [])) d (λ_=>none) 0:=⟨[],ae,aa4 _,λ_=>rfl⟩
theorem c9.put {H:Hp} {d b:Addr} {g:Ky→Option Int} {n:Nat} {k:Ky} {v:Int} (h:c9 H d g n) (hb:H b=some (kyT k)) (hn:n≤1000000):
  ∃o,Aw H d (.ref b) (.int v) (upd H d o)∧c9 (upd H d o) d (ia g k v) (if (g k).isSome then n else n+1):=by
 obtain ⟨kvs,h1,h2,h3⟩:=h;have sz:=sizeLine_eq;refine ⟨.dT (putK kvs (kyK k) (.int v)),Aw.t h1 hb (by omega),_,ae,?_,λj=>?_⟩
 ·have hk:=h3 k;cases e:g k with
  | none=>
   have:=gd kvs (kyK k) (.int v);simp only[ado,ab6,if_false];omega
  | some w=>
   rw[e] at hk;have ha:(kvs.any λkv=>decide (kv.1=kyK k))=true:=by rw[eh,hk];rfl
   simp only[acv,if_true];unfold putK;rw[if_pos ha,aa1];exact h2
 ·rw[Mc];by_cases e:j=k
  ·subst e;rw[if_pos rfl,cy];rfl
  ·rw[if_neg (λz=>e (Ad z)),fb e];exact h3 j
theorem c9.bound {H:Hp} {d:Addr} {g:Ky→Option Int} {n:Nat} (h:c9 H d g n):∃D:Nat,∀k v,g k=some v→v≤(D:Int):=by
 obtain ⟨kvs,h1,_,h3⟩:=h;obtain ⟨B,hB⟩:=nr (λp:List Key×V=>match p.2 with | .int i=>i.toNat | _=>0) kvs;refine ⟨B,λk v e=>?_⟩;have hk:=h3 k;rw[e] at hk;unfold cu at hk;obtain ⟨p,hp,e2⟩:=Option.map_eq_some_iff.mp hk;have:=hB p (acs hp);rw[show p.2=V.int v from e2] at this;have:v.toNat≤B:=this;omega
structure Kx (no:Addr→Prop) (H H':Hp):Prop where
 t:∀{a:Addr} {xs:List V},H a=some (.tup xs)→H' a=some (.tup xs)
 l:∀{a:Addr} {xs:List V},¬no a→H a=some (.lst xs)→H' a=some (.lst xs)
theorem Kx.same {no:Addr→Prop} {H H':Hp} (s:ah H H'):Kx no H H':=⟨λh=>s _ _ h,λ_ h=>s _ _ h⟩
theorem Kx.trans {no:Addr→Prop} {H H1 H2:Hp} (a:Kx no H H1) (b:Kx no H1 H2):Kx no H H2:=⟨λh=>b.t (a.t h),λn h=>b.l n (a.l n h)⟩
theorem Kx.weak {no no':Addr→Prop} {H H':Hp} (a:Kx no H H') (h:∀x,no x→no' x):Kx no' H H':=⟨a.t,λn e=>a.l (λz=>n (h _ z)) e⟩
theorem Kx.upd {x:Addr} {H:Hp} {ys:List V} {o:HO} (h:H x=some (.lst ys)):Kx (·=x) H (L2.upd H x o):=⟨λe=>by rw[ag (gx e h (by intro z;cases z))];exact e,λn e=>by rw[ag n];exact e⟩
theorem Kx.dict {no:Addr→Prop} {d:Addr} {H H':Hp} {kvs:List (List Key×V)} (h:H d=some (.dT kvs)) (s:ao d H H'):Kx no H H':=⟨λe=>s _ _ (gx e h (by intro z;cases z)) e,λ_ e=>s _ _ (gx e h (by intro z;cases z)) e⟩
theorem Kx.tb {no:Addr→Prop} {d:Addr} {H H':Hp} {g:Ky→Option Int} {n:Nat} (h:c9 H d g n) (s:ao d H H'):Kx no H H':=by
 obtain ⟨kvs,h1,_⟩:=h;exact Kx.dict h1 s
def rf (H:Hp) (l:Addr) (hs:List Ky):Prop:=∃as:List Addr,H l=some (.lst (as.map V.ref))∧as.length=hs.length∧∀(j:Nat) (k:Ky),hs[j]?=some k→∃a,as[j]?=some a∧H a=some (kyT k)
theorem rf.kx {no:Addr→Prop} {H H':Hp} {l:Addr} {hs:List Ky} (h:rf H l hs) (x:Kx no H H') (n:¬no l):rf H' l hs:=by
 obtain ⟨as,h1,h2,h3⟩:=h;exact ⟨as,x.l n h1,h2,λj k e=>by
  obtain ⟨a,g1,g2⟩:=h3 j k e;exact ⟨a,g1,x.t g2⟩⟩
theorem rf.same {H H':Hp} {l:Addr} {hs:List Ky} (h:rf H l hs) (s:ah H H'):rf H' l hs:=h.kx (no:=λ_=>False) (Kx.same s) id
structure Fr where
 name:Str
 kind:Str
 own:Int
 hs:List Ky
def FrAt (H:Hp) (no:Addr→Prop) (a:Addr) (f:Fr):Prop:=∃hl,¬no hl∧H a=some (.tup [.str f.name,.str f.kind,.int f.own,.ref hl])∧rf H hl f.hs
def df (H:Hp) (no:Addr→Prop) (as:List Addr) (fs:List Fr):Prop:=as.length=fs.length∧∀(j:Nat) (f:Fr),fs[j]?=some f→∃a,as[j]?=some a∧FrAt H no a f
theorem df.kx {no:Addr→Prop} {H H':Hp} {as:List Addr} {fs:List Fr} (h:df H no as fs) (x:Kx no H H'):df H' no as fs:=⟨h.1,λj f e=>by
 obtain ⟨a,g1,hl,g2,g3,g4⟩:=h.2 j f e;exact ⟨a,g1,hl,g2,x.t g3,g4.kx x g2⟩⟩
theorem df.weak {no no':Addr→Prop} {H:Hp} {as:List Addr} {fs:List Fr} (h:df H no as fs) (w:∀x,no' x→no x):df H no' as fs:=⟨h.1,λj f e=>by
 obtain ⟨a,g1,hl,g2,g3⟩:=h.2 j f e;exact ⟨a,g1,hl,λz=>g2 (w _ z),g3⟩⟩
theorem df.snoc {no:Addr→Prop} {H:Hp} {as:List Addr} {fs:List Fr} {a:Addr} {f:Fr} (h:df H no as fs) (hf:FrAt H no a f):df H no (as++[a]) (fs++[f]):=by
 refine ⟨by rw[aa2,aa2,h.1];rfl,λi f' hi=>?_⟩;by_cases c:i < fs.length
 ·rw[aag c] at hi;obtain ⟨a',g1,g2⟩:=h.2 i f' hi;exact ⟨a',by rw[aag (by rw[h.1];exact c)];exact g1,g2⟩
 ·rw[aad (by omega)] at hi;have hz:i - fs.length=0:=by
   rcases abl (i - fs.length) with g | g
   ·exact g
   ·rw[ab9 (by rw[aac];omega)] at hi;cases hi
  rw[hz] at hi;cases hi
  exact ⟨a,by rw[aad (by rw[h.1];omega),h.1,hz];rfl,hf⟩
theorem df.nil (H:Hp) (no:Addr→Prop):df H no [] []:=⟨rfl,λj f h=>by simp at h⟩
noncomputable def aq (kinds:List Str) (sh:List V):List Str:=sh.filterMap λv=>match v with
 | .str z=>if z∈kinds then some z else none
 | _=>none
noncomputable def eu (p:Nat) (f:Fr):Ft Ky:=⟨(p,f.kind),f.own,f.hs⟩
noncomputable def ll (kinds:List Str) (ws:List V) (p:Nat) (r:Rl):Option Fr:=(bo kinds ws r.shape p ⟨[],[],[]⟩).map λu=>⟨r.name,r.kind,r.price,u.hs.zip (aq kinds r.shape)⟩
noncomputable def bq (kinds:List Str) (rs:List Rl) (ws:List V) (p:Nat):List Fr:=rs.filterMap (ll kinds ws p)
structure Rw where
 place:Nat
 kind:Str
 price:Int
 names:List Str
def RwAt (H:Hp) (no:Addr→Prop) (a:Addr) (r:Rw):Prop:=∃nl,¬no nl∧H a=some (.tup [.int (r.place:Int),.str r.kind,.int r.price,.ref nl])∧H nl=some (.lst (r.names.map V.str))
def cn (H:Hp) (no:Addr→Prop) (as:List Addr) (rs:List Rw):Prop:=as.length=rs.length∧∀(j:Nat) (r:Rw),rs[j]?=some r→∃a,as[j]?=some a∧RwAt H no a r
theorem cn.kx {no:Addr→Prop} {H H':Hp} {as:List Addr} {rs:List Rw} (h:cn H no as rs) (x:Kx no H H'):cn H' no as rs:=⟨h.1,λj f e=>by
 obtain ⟨a,g1,hl,g2,g3,g4⟩:=h.2 j f e;exact ⟨a,g1,hl,g2,x.t g3,x.l g2 g4⟩⟩
theorem cn.weak {no no':Addr→Prop} {H:Hp} {as:List Addr} {rs:List Rw} (h:cn H no as rs) (w:∀x,no' x→no x):cn H no' as rs:=⟨h.1,λj f e=>by
 obtain ⟨a,g1,hl,g2,g3⟩:=h.2 j f e;exact ⟨a,g1,hl,λz=>g2 (w _ z),g3⟩⟩
theorem cn.nil (H:Hp) (no:Addr→Prop):cn H no [] []:=⟨rfl,λj f h=>by simp at h⟩
theorem cn.append {no:Addr→Prop} {H:Hp} {as bs:List Addr} {rs qs:List Rw} (h:cn H no as rs) (h':cn H no bs qs):cn H no (as++bs) (rs++qs):=by
 refine ⟨by rw[aa2,aa2,h.1,h'.1],λi r hi=>?_⟩;by_cases c:i < rs.length
 ·rw[aag c] at hi;obtain ⟨a',g1,g2⟩:=h.2 i r hi;exact ⟨a',by rw[aag (by rw[h.1];exact c)];exact g1,g2⟩
 ·rw[aad (by omega)] at hi;obtain ⟨a',g1,g2⟩:=h'.2 _ r hi;exact ⟨a',by rw[aad (by rw[h.1];omega),h.1];exact g1,g2⟩
theorem cn.one {no:Addr→Prop} {H:Hp} {a:Addr} {r:Rw} (h:RwAt H no a r):cn H no [a] [r]:=⟨rfl,λj r' e=>by
 cases j with
 | zero=>cases e;exact ⟨a,rfl,h⟩
 | succ j=>simp at e⟩
noncomputable def namesW (fs:List Fr) (g:Ky→Option Int) (k:Str) (v:Int):List Str:=(fs.filter λf=>decide (f.kind=k∧cost g f.own f.hs=some v)).map (·.name)
noncomputable def c8 (ks:List Str) (fs:List Fr) (p:Nat) (g:Ky→Option Int):List Rw:=ks.filterMap λk=>(g (p,k)).map λv=>⟨p,k,v,namesW fs g k v⟩
noncomputable def rowsOf (kinds:List Str) (rs:List Rl) (ws:List V) (g:Ky→Option Int):List Rw:=(aaq ws.length).flatMap λp=>c8 (az kinds) (bq kinds rs ws p) p g
noncomputable def ee (kinds:List Str) (rs:List Rl) (ws:List V):List (Ft Ky):=(aaq ws.length).flatMap λp=>(bq kinds rs ws p).map (eu p)
def m9 (K:PySem.W.Frag):Sp:=λvs H Q _=>∃(st kt ut:Addr) (sh:List V) (kinds:List Str) (u:Und),vs=[.ref st,.ref kt,.ref ut]∧SqT K H st sh∧SqT K H kt (kinds.map V.str)∧qj H ut u∧Kinds kinds∧(∀v∈sh,isW v)∧sh.length≤1000∧u.hs.length=(aq kinds sh).length∧∀(l:Addr) (H':Hp),ah H H'→H l=none→rf H' l (u.hs.zip (aq kinds sh))→Q (.ref l) H'
def pq:Sp:=λvs H Q _=>∃(b wt:Addr) (kinds:List Str) (rs:List Rl) (ws:List V) (p:Nat),vs=[.ref b,.ref wt,.int (p:Int)]∧bh H b kinds rs∧H wt=some (.tup ws)∧Bk kinds rs∧Tw ws∧p < ws.length∧∀(l:Addr) (as:List Addr) (H':Hp),ah H H'→H l=none→H' l=some (.lst (as.map V.ref))→df H' (λx=>H x≠none) as (bq kinds rs ws p)→Q (.ref l) H'
def la:Sp:=λvs H Q _=>∃(own:Int) (hl d:Addr) (hs:List Ky) (g:Ky→Option Int) (n:Nat),vs=[.int own,.ref hl,.ref d]∧rf H hl hs∧c9 H d g n∧Q (match cost g own hs with | none=>.non | some c=>.int c) H
def vj:Sp:=λvs H Q _=>∃(p:Nat) (fl d:Addr) (as:List Addr) (fs:List Fr) (g:Ky→Option Int) (n:Nat),vs=[.int (p:Int),.ref fl,.ref d]∧H fl=some (.lst (as.map V.ref))∧df H (λ_=>False) as fs∧c9 H d g n∧n+fs.length≤1000000∧(∀f∈fs,1≤f.own)∧(∀k v,g k=some v→1≤v)∧(∀k,k.1=p→g k=none)∧
 ∀(H':Hp) (g':Ky→Option Int),ao d H H'→c9 H' d g' (n+fs.length)→kb (fs.map (eu p)) g'→(∀k,k.1≠p→g' k=g k)→(∀k v,k.1=p→g' k=some v→∃f∈fs.map (eu p),f.key=k∧∃c,cost g' f.own f.hs=some c∧c≤v)→(∀k v,g' k=some v→1≤v)→Q .non H'
def Dq:Sp:=λvs H Q _=>∃(k:Str) (v:Int) (fl d:Addr) (as:List Addr) (fs:List Fr) (g:Ky→Option Int) (n:Nat),vs=[.str k,.int v,.ref fl,.ref d]∧H fl=some (.lst (as.map V.ref))∧df H (λ_=>False) as fs∧fs.length≤1000∧c9 H d g n∧∀(l:Addr) (H':Hp),ah H H'→H l=none→H' l=some (.lst ((namesW fs g k v).map V.str))→Q (.ref l) H'
def yr:Sp:=λvs H Q _=>∃(b fl d:Addr) (p:Nat) (kinds:List Str) (rs:List Rl) (as:List Addr) (fs:List Fr) (g:Ky→Option Int) (n:Nat),vs=[.ref b,.int (p:Int),.ref fl,.ref d]∧bh H b kinds rs∧kinds.length≤60∧H fl=some (.lst (as.map V.ref))∧df H (λ_=>False) as fs∧fs.length≤1000∧c9 H d g n∧∀(l:Addr) (bs:List Addr) (H':Hp),ah H H'→H l=none→H' l=some (.lst (bs.map V.ref))→cn H' (λx=>H x≠none) bs (c8 (az kinds) fs p g)→Q (.ref l) H'
def G1:Sp:=λvs H Q _=>∃(b wt:Addr) (kinds:List Str) (rs:List Rl) (ws:List V),vs=[.ref b,.ref wt]∧bh H b kinds rs∧H wt=some (.tup ws)∧Bk kinds rs∧Tw ws∧∀(l:Addr) (bs:List Addr) (H':Hp) (g:Ky→Option Int),ah H H'→H l=none→H' l=some (.lst (bs.map V.ref))→Tbl (ee kinds rs ws) g→cn H' (λx=>H x≠none) bs (rowsOf kinds rs ws g)→Q (.ref l) H'
noncomputable def isH (kinds:List Str):V→Bool
 | .str z=>decide (z∈kinds)
 | _=>false
theorem yx {kinds:List Str} {v:V} (hv:isW v):inV v (kinds.map V.str)=isH kinds v:=by
 obtain ⟨k,rfl⟩:=hv;cases k with
 | inl i=>
  show inV (.int i) (kinds.map V.str)=false
  induction kinds with
  | nil=>rfl
  | cons z r ih=>exact ih
 | inr z=>
  show inV (.str z) (kinds.map V.str)=decide (z∈kinds)
  by_cases h:z∈kinds
  ·rw[decide_eq_true h];exact nj (List.mem_map.mpr ⟨z,h,rfl⟩)
  ·rw[decide_eq_false h];cases e:inV (.str z) (kinds.map V.str) with
   | false=>rfl
   | true=>
    obtain ⟨y,hy,e'⟩:=List.mem_map.mp (jj e);cases e'
    exact absurd hy h
theorem m5 {kinds:List Str} (hk:Kinds kinds) {v:V} (hv:isW v):br kinds v=lH↔isH kinds v=true:=by
 obtain ⟨b1,b2,b3,_,_,_⟩:=lets;rcases dv (kinds:=kinds) hv with ⟨rfl,h⟩ | ⟨rfl,h⟩ | ⟨⟨z,hz,rfl⟩,h⟩ | ⟨h,hno⟩
 ·rw[h];refine ⟨λe=>absurd e b1,λe=>?_⟩;exact absurd rfl (hk _ (of_decide_eq_true (show decide (Str.ofString "any"∈kinds)=true from e))).2.1
 ·rw[h];refine ⟨λe=>absurd e b2,λe=>?_⟩;exact absurd rfl (hk _ (of_decide_eq_true (show decide (Str.ofString "var"∈kinds)=true from e))).2.2
 ·exact ⟨λ_=>decide_eq_true hz,λ_=>h⟩
 ·rw[h];refine ⟨λe=>absurd e b3,λe=>?_⟩;rw[yx hv,e] at hno;cases hno
theorem Fc (kinds:List Str) (v:V) (r:List V):aq kinds (v::r)=(match v with | .str z=>if z∈kinds then [z] else [] | _=>[])++aq kinds r:=by
 unfold aq;rw[abz];cases v with
 | str z=>
  by_cases h:z∈kinds
  ·simp[h]
  ·simp[h]
 | _=>rfl
theorem iq (kinds:List Str):∀(sh:List V),(aq kinds sh).map V.str=sh.filter (isH kinds)
 | []=>rfl
 | v::r=>by
  rw[Fc,aa6,iq kinds r,aap];cases v with
  | str z=>
   by_cases h:z∈kinds
   ·simp[h,isH]
   ·simp[h,isH]
  | _=>simp[isH]
theorem Hg (kinds:List Str) (v:V) (r:List V):(aq kinds (v::r)).length=(if isH kinds v=true then 1 else 0)+(aq kinds r).length:=by
 have e:=congrArg ad7 (iq kinds (v::r));have e':=congrArg ad7 (iq kinds r);rw[aa1] at e e';rw[e,e',aap];by_cases h:isH kinds v=true
 ·rw[if_pos h,if_pos h,aai];omega
 ·rw[if_neg h,if_neg h];omega
theorem jm {kinds:List Str} {ws:List V} (hk:Kinds kinds):∀(sh:List V) (p:Nat) (u u':Und),(∀v∈sh,isW v)→bo kinds ws sh p u=some u'→u'.hs.length=u.hs.length+(aq kinds sh).length∧∀h∈u'.hs,h∈u.hs∨p≤h
 | [],p,u,u',_,h=>by
  have h:some u=some u':=h;cases h
  exact ⟨rfl,λ_ m=>.inl m⟩
 | v::r,p,u,u',hw,h=>by
  rw[fz] at h;by_cases c:lies (br kinds v) v (ws.getD p .non)=true
  ·rw[if_pos c] at h;obtain ⟨i1,i2⟩:=jm hk r _ _ u' (λx m=>hw x (aab _ m)) h;have hv:=hw v aa9;rw[Hg];by_cases e:isH kinds v=true
   ·have e':=(m5 hk hv).mpr e;have ep:u.put (br kinds v) p (ws.getD p .non)=⟨u.hs++[p],u.ns,u.vs⟩:=by
     unfold Und.put;rw[if_pos e']
    rw[ep] at i1 i2;rw[if_pos e'] at i2;rw[if_pos e];have i1:u'.hs.length=(u.hs++[p]).length+(aq kinds r).length:=i1;rw[aa2,aac] at i1;refine ⟨by omega,λh m=>?_⟩;have le:p≤endAt ws p:=aay _ _;rcases i2 h m with g | g
    ·rcases List.mem_append.mp (show h∈u.hs++[p] from g) with g | g
     ·exact .inl g
     ·rw[List.mem_singleton.mp g];exact .inr (aa4 _)
    ·exact .inr (by omega)
   ·have e':¬br kinds v=lH:=λz=>e ((m5 hk hv).mp z);have ep:(u.put (br kinds v) p (ws.getD p .non)).hs=u.hs:=by
     unfold Und.put;rw[if_neg e'];split
     ·rfl
     split
     ·rfl
     ·rfl
    rw[ep] at i1 i2;rw[if_neg e'] at i2;rw[if_neg e];refine ⟨by omega,λh m=>?_⟩;rcases i2 h m with g | g
    ·exact .inl g
    ·exact .inr (by omega)
  ·rw[if_neg c] at h;cases h
theorem i5 {kinds:List Str} {rs:List Rl} {ws:List V} (bk:Bk kinds rs) {p:Nat} {f:Fr} (h:f∈bq kinds rs ws p):1≤f.own∧f.kind∈kinds∧(∀k∈f.hs,p≤k.1)∧∃r∈rs,r.name=f.name∧r.kind=f.kind∧r.price=f.own∧∃u,bo kinds ws r.shape p ⟨[],[],[]⟩=some u∧f.hs=u.hs.zip (aq kinds r.shape):=by
 obtain ⟨r,hr,e⟩:=List.mem_filterMap.mp h;obtain ⟨u,hu,rfl⟩:=Option.map_eq_some_iff.mp e;refine ⟨bk.pr r hr,bk.rk r hr,λk hk=>?_,r,hr,rfl,rfl,rfl,u,hu,rfl⟩;have:=(jm bk.kd r.shape p _ u (bk.sh r hr).1 hu).2 k.1 (acr (show (k.1,k.2)∈u.hs.zip (aq kinds r.shape) from hk)).1;rcases this with g | g
 ·cases g
 ·exact g
theorem Jy (kinds:List Str) (rs:List Rl) (ws:List V) (p:Nat):(bq kinds rs ws p).length≤rs.length:=abm _ _
noncomputable def gOf (H:Hp) (d:Addr):Ky→Option Int:=λk=>match H d with
 | some (.dT kvs)=>match cu kvs (kyK k) with
  | some (.int i)=>some i
  | _=>none
 | _=>none
theorem Ls {H:Hp} {d:Addr} {g:Ky→Option Int} {n:Nat} (h:c9 H d g n):gOf H d=g:=by
 obtain ⟨kvs,h1,_,h3⟩:=h;funext k
 unfold gOf;rw[h1];show (match cu kvs (kyK k) with | some (.int i)=>some i | _=>none)=g k
 rw[h3 k];cases g k <;> rfl
structure SetI (p:Nat) (fs:List Fr) (g0:Ky→Option Int) (Ok:(Ky→Option Int)→Prop) (g:Ky→Option Int):Prop where
 ok:Ok g
 far:∀k,k.1≠p→g k=g0 k
 due:∀k v,k.1=p→g k=some v→∃f∈fs.map (eu p),f.key=k∧∃c,cost g f.own f.hs=some c∧c≤v
theorem SetI.put {p:Nat} {fs:List Fr} {g0:Ky→Option Int} {Ok:(Ky→Option Int)→Prop} {g:Ky→Option Int} (h:SetI p fs g0 Ok g) {f:Fr} (hf:f∈fs) {c:Int} (hc:cost g f.own f.hs=some c) (im:Imp g (p,f.kind) c) (ok':Ok (ia g (p,f.kind) c)):SetI p fs g0 Ok (ia g (p,f.kind) c):=by
 refine ⟨ok',λk hk=>?_,λk v hk hv=>?_⟩
 ·rw[fb λe=>hk (by rw[e])];exact h.far k hk
 ·have up:∀{f':Ft Ky} {c':Int},cost g f'.own f'.hs=some c'→∃x,cost (ia g (p,f.kind) c) f'.own f'.hs=some x∧x≤c':=λh=>mr (λk _ v hv=>im.le hv) (abr _) h;by_cases e:k=(p,f.kind)
  ·subst e;rw[cy] at hv;cases hv
   obtain ⟨x,hx,le⟩:=up (f':=eu p f) hc;exact ⟨eu p f,List.mem_map.mpr ⟨f,hf,rfl⟩,rfl,x,hx,le⟩
  ·rw[fb e] at hv;obtain ⟨f',hf',e',c',hc',le⟩:=h.due k v hk hv;obtain ⟨x,hx,le'⟩:=up hc';exact ⟨f',hf',e',x,hx,by omega⟩
def M8 (p:Nat) (g:Ky→Option Int) (f:Fr):Prop:=∀c,cost g f.own f.hs=some c→∃v,g (p,f.kind)=some v∧v≤c
theorem Jb {p:Nat} {fs:List Fr} {g:Ky→Option Int} (h:∀(j:Nat) (f:Fr),fs[j]?=some f→M8 p g f):kb (fs.map (eu p)) g:=λf' hf' c hc=>by
 obtain ⟨f,hf,rfl⟩:=List.mem_map.mp hf';obtain ⟨j,hj⟩:=List.mem_iff_getElem?.mp hf;exact h j f hj c hc
theorem cnt_up {p:Nat} {fs:List Fr} {g:Ky→Option Int} {f:Fr} (hf:f∈fs) {c:Int} {n:Nat}:(if (g (p,f.kind)).isSome then n+cnt (fs.map (eu p)) g else n+cnt (fs.map (eu p)) g+1)≤n+cnt (fs.map (eu p)) (ia g (p,f.kind) c):=by
 cases e:g (p,f.kind) with
 | none=>
  have:=zi (c:=c) e (fs.map (eu p)) ⟨eu p f,List.mem_map.mpr ⟨f,hf,rfl⟩,rfl⟩;simp only[ado,ab6,if_false];omega
 | some v=>
  have:=mw (g:=g) (g':=ia g (p,f.kind) c) (fs.map (eu p)) λf' _ e=>by
   by_cases q:f'.key=(p,f.kind)
   ·rw[q,cy];rfl
   ·rw[fb q];exact e
  simp only[acv,if_true];omega
theorem ao.tb {d:Addr} {H:Hp} (o:HO):ao d H (L2.upd H d o):=λb u n h=>by rw[ag n];exact h
noncomputable def blAt (σ:List (Option V)):Nat:=match σ[3]? with
 | some (some (V.bl false))=>1
 | _=>0
structure vx (kinds:List Str) (rs:List Rl) (ws:List V) (p:Nat) (g:Ky→Option Int):Prop where
 at':∀k v,g k=some v→p≤k.1∧k.1 < ws.length
 st:∀q,p≤q→q < ws.length→kb ((bq kinds rs ws q).map (eu q)) g
 due:∀k v,g k=some v→∃f∈(bq kinds rs ws k.1).map (eu k.1),f.key=k∧∃c,cost g f.own f.hs=some c∧c≤v
 pos:∀k v,g k=some v→1≤v
theorem vx.start (kinds:List Str) (rs:List Rl) (ws:List V):vx kinds rs ws ws.length (λ_=>none):=⟨(λk v h=>nomatch h),(λq h1 h2=>by omega),(λk v h=>nomatch h),(λk v h=>nomatch h)⟩
theorem t5 {kinds:List Str} {rs:List Rl} {ws:List V} (bk:Bk kinds rs) {p q:Nat} {g g':Ky→Option Int} (hq:p < q) (far:∀k,k.1≠p→g' k=g k) {f:Fr} (hf:f∈bq kinds rs ws q) (c:Int):cost g' c f.hs=cost g c f.hs:=uk λk hk=>far k (by have:=(i5 bk hf).2.2.1 k hk;omega)
theorem vx.step {kinds:List Str} {rs:List Rl} {ws:List V} (bk:Bk kinds rs) {p:Nat} {g g':Ky→Option Int} (h:vx kinds rs ws (p+1) g) (hp:p < ws.length) (st:kb ((bq kinds rs ws p).map (eu p)) g') (far:∀k,k.1≠p→g' k=g k)
  (due:∀k v,k.1=p→g' k=some v→∃f∈(bq kinds rs ws p).map (eu p),f.key=k∧∃c,cost g' f.own f.hs=some c∧c≤v) (pos:∀k v,g' k=some v→1≤v):vx kinds rs ws p g':=by
 refine ⟨λk v hv=>?_,λq h1 h2=>?_,λk v hv=>?_,pos⟩
 ·by_cases e:k.1=p
  ·omega
  ·rw[far k e] at hv;have:=h.at' k v hv;omega
 ·by_cases e:q=p
  ·subst e;exact st
  ·intro f hf c hc;obtain ⟨f',hf',rfl⟩:=List.mem_map.mp hf;have hc:cost g' f'.own f'.hs=some c:=hc;rw[t5 bk (show p < q by omega) far hf'] at hc;obtain ⟨v,hv,le⟩:=h.st q (by omega) h2 (eu q f') hf c hc;exact ⟨v,by rw[far _ (show q≠p from e)];exact hv,le⟩
 ·by_cases e:k.1=p
  ·obtain ⟨f,hf,e1,r⟩:=due k v e hv;rw[e];exact ⟨f,hf,e1,r⟩
  ·rw[far k e] at hv;obtain ⟨f,hf,e1,c,hc,le⟩:=h.due k v hv;obtain ⟨f',hf',rfl⟩:=List.mem_map.mp hf;have:=(h.at' k v hv).1;refine ⟨_,hf,e1,c,?_,le⟩;show cost g' f'.own f'.hs=some c
   rw[t5 bk (show p < k.1 by omega) far hf'];exact hc
theorem K8 {kinds:List Str} {rs:List Rl} {ws:List V} (bk:Bk kinds rs) {p q:Nat} {g g':Ky→Option Int} (hq:p < q) (far:∀k,k.1≠p→g' k=g k) (ks:List Str):c8 ks (bq kinds rs ws q) q g'=c8 ks (bq kinds rs ws q) q g:=by
 unfold c8;have e:(λk=>(g' (q,k)).map λv=>(⟨q,k,v,namesW (bq kinds rs ws q) g' k v⟩:Rw))=λk=>(g (q,k)).map λv=>⟨q,k,v,namesW (bq kinds rs ws q) g k v⟩:=by
  funext k
  rw[far (q,k) (show q≠p by omega)];congr 1
  funext v
  congr 1
  unfold namesW;congr 1
  apply List.filter_congr
  intro f hf;rw[t5 bk hq far hf]
 rw[e]
theorem vx.tbl {kinds:List Str} {rs:List Rl} {ws:List V} {g:Ky→Option Int} (h:vx kinds rs ws 0 g):Tbl (ee kinds rs ws) g:=by
 refine ⟨λf hf c hc=>?_,λk v hv=>?_,h.pos⟩
 ·obtain ⟨q,hq,hf⟩:=List.mem_flatMap.mp hf;exact h.st q (aa7 _) (List.mem_range.mp hq) f hf c hc
 ·obtain ⟨f,hf,e,r⟩:=h.due k v hv;exact ⟨f,List.mem_flatMap.mpr ⟨k.1,List.mem_range.mpr (h.at' k v hv).2,hf⟩,e,r⟩
def gn (H0 H:Hp) (pl:Addr) (pa:List Addr) (kinds:List Str) (rs:List Rl) (ws:List V) (p:Nat) (g:Ky→Option Int):Prop:=pa.length=ws.length - p∧∀q,p≤q→q < ws.length→∃a bs,pa[ws.length - 1 - q]?=some a∧¬(H0 a≠none∨a=pl)∧H a=some (.lst (bs.map V.ref))∧cn H (λx=>H0 x≠none∨x=pl) bs (c8 (az kinds) (bq kinds rs ws q) q g)
theorem gn.kx {H0 H H':Hp} {pl:Addr} {pa:List Addr} {kinds:List Str} {rs:List Rl} {ws:List V} {p:Nat} {g:Ky→Option Int} (h:gn H0 H pl pa kinds rs ws p g) (x:Kx (λx=>H0 x≠none∨x=pl) H H'):gn H0 H' pl pa kinds rs ws p g:=⟨h.1,λq h1 h2=>by
 obtain ⟨a,bs,g1,g2,g3,g4⟩:=h.2 q h1 h2;exact ⟨a,bs,g1,g2,x.l g2 g3,g4.kx x⟩⟩
theorem gn.snoc {H0 H:Hp} {pl:Addr} {pa:List Addr} {kinds:List Str} {rs:List Rl} {ws:List V} {p:Nat} {g g':Ky→Option Int} (bk:Bk kinds rs) (h:gn H0 H pl pa kinds rs ws (p+1) g) (hp:p < ws.length) (far:∀k,k.1≠p→g' k=g k) {a:Addr} {bs:List Addr} (ha:¬(H0 a≠none∨a=pl)) (h1:H a=some (.lst (bs.map V.ref))) (h2:cn H (λx=>H0 x≠none∨x=pl) bs (c8 (az kinds) (bq kinds rs ws p) p g')):gn H0 H pl (pa++[a]) kinds rs ws p g':=by
 have hl:=h.1;refine ⟨by rw[aa2,aac,hl];omega,λq h3 h4=>?_⟩;by_cases e:q=p
 ·subst e;exact ⟨a,bs,by rw[aad (by omega),hl,show ws.length - 1 - q - (ws.length - (q+1))=0 by omega];rfl,ha,h1,h2⟩
 ·obtain ⟨a',bs',g1,g2,g3,g4⟩:=h.2 q (by omega) h4;refine ⟨a',bs',by rw[aag (by omega)];exact g1,g2,g3,?_⟩;rw[K8 bk (show p < q by omega) far];exact g4
theorem uh (ks:List Str) (fs:List Fr) (p:Nat) (g:Ky→Option Int):(c8 ks fs p g).length≤ks.length:=abm _ _
noncomputable def mf (kinds:List Str) (rs:List Rl) (ws:List V) (g:Ky→Option Int) (i:Nat):List Rw:=(aaq i).flatMap λp=>c8 (az kinds) (bq kinds rs ws p) p g
theorem ju (kinds:List Str) (rs:List Rl) (ws:List V) (g:Ky→Option Int) (i:Nat):mf kinds rs ws g (i+1)=mf kinds rs ws g i++c8 (az kinds) (bq kinds rs ws i) i g:=by
 unfold mf;rw[ae9,aeq];simp
theorem me (kinds:List Str) (rs:List Rl) (ws:List V) (g:Ky→Option Int) (hk:kinds.length≤60):∀i,(mf kinds rs ws g i).length≤60*i
 | 0=>aa4 _
 | i+1=>by
  rw[ju,aa2];have h1:=me kinds rs ws g hk i;have h2:=uh (az kinds) (bq kinds rs ws i) i g;rw[fw] at h2;omega
theorem je {kinds:List Str} {rs:List Rl} {ws:List V} {g:Ky→Option Int} (T:Tbl (ee kinds rs ws) g) {r:Rw} (h:r∈rowsOf kinds rs ws g):∃nm,r.names.head?=some nm:=by
 obtain ⟨p,hp,h⟩:=List.mem_flatMap.mp h;obtain ⟨k,hk,e⟩:=List.mem_filterMap.mp h;obtain ⟨v,hv,rfl⟩:=Option.map_eq_some_iff.mp e;obtain ⟨f,hf,e1,hc⟩:=T.exact hv;obtain ⟨p',_,hf⟩:=List.mem_flatMap.mp hf;obtain ⟨f',hf',rfl⟩:=List.mem_map.mp hf;have e1:(p',f'.kind)=(p,k):=e1;obtain ⟨rfl,rfl⟩:=Prod.mk.inj e1;have hm:f'.name∈namesW (bq kinds rs ws p') g f'.kind v:=List.mem_map.mpr ⟨f',List.mem_filter.mpr ⟨hf',decide_eq_true ⟨rfl,hc⟩⟩,rfl⟩;show ∃nm,(namesW (bq kinds rs ws p') g f'.kind v).head?=some nm
 cases e:namesW (bq kinds rs ws p') g f'.kind v with
 | nil=>rw[e] at hm;cases hm
 | cons x xs=>exact ⟨x,rfl⟩
def rb (H:Hp) (bs:List Addr) (rows:List Rw):Prop:=bs.length=rows.length∧∀(j:Nat) (r:Rw),rows[j]?=some r→∃a nm,bs[j]?=some a∧r.names.head?=some nm∧H a=some (.tup [.int (r.place:Int),.str r.kind,.int r.price,.str nm])
theorem rb.same {H H':Hp} {bs:List Addr} {rows:List Rw} (h:rb H bs rows) (s:ah H H'):rb H' bs rows:=⟨h.1,λj r e=>by
 obtain ⟨a,nm,h1,h2,h3⟩:=h.2 j r e;exact ⟨a,nm,h1,h2,s _ _ h3⟩⟩
def nk:Sp:=λvs H Q _=>∃(b wt:Addr) (kinds:List Str) (rs:List Rl) (ws:List V),vs=[.ref b,.ref wt]∧bh H b kinds rs∧H wt=some (.tup ws)∧Bk kinds rs∧Tw ws∧∀(l:Addr) (bs:List Addr) (H':Hp) (g:Ky→Option Int),ah H H'→H l=none→H' l=some (.lst (bs.map V.ref))→Tbl (ee kinds rs ws) g→rb H' bs (rowsOf kinds rs ws g)→Q (.ref l) H'
theorem rb.tk {H H':Hp} {bs:List Addr} {rows:List Rw} (h:rb H bs rows) (s:TK H H'):rb H' bs rows:=⟨h.1,λj r e=>by
 obtain ⟨a,nm,h1,h2,h3⟩:=h.2 j r e;exact ⟨a,nm,h1,h2,s _ _ h3⟩⟩
theorem rb.snoc {H:Hp} {bs:List Addr} {rows:List Rw} (h:rb H bs rows) {a:Addr} {r:Rw} {nm:Str} (hn:r.names.head?=some nm) (ha:H a=some (.tup [.int (r.place:Int),.str r.kind,.int r.price,.str nm])):rb H (bs++[a]) (rows++[r]):=by
 refine ⟨by rw[aa2,aa2,h.1];rfl,λi r' hi=>?_⟩;by_cases c:i < rows.length
 ·rw[aag c] at hi;obtain ⟨a',nm',g1,g2⟩:=h.2 i r' hi;exact ⟨a',nm',by rw[aag (by rw[h.1];exact c)];exact g1,g2⟩
 ·rw[aad (by omega)] at hi;have hz:i - rows.length=0:=by
   rcases abl (i - rows.length) with g | g
   ·exact g
   ·rw[ab9 (by rw[aac];omega)] at hi;cases hi
  rw[hz] at hi;cases hi
  exact ⟨a,nm,by rw[aad (by rw[h.1];omega),h.1,hz];rfl,hn,ha⟩
theorem cn.get {no:Addr→Prop} {H:Hp} {as:List Addr} {rows:List Rw} (h:cn H no as rows) {i:Nat} {t:Addr} (ht:as[i]?=some t):∃r nl,rows[i]?=some r∧H t=some (.tup [.int (r.place:Int),.str r.kind,.int r.price,.ref nl])∧H nl=some (.lst (r.names.map V.str)):=by
 have hi:i < rows.length:=by rw[←h.1];exact (List.getElem?_eq_some_iff.mp ht).1
 obtain ⟨a,h1,nl,_,h3,h4⟩:=h.2 i _ (aa0 hi);obtain rfl:a=t:=aa3 (h1.symm.trans ht);exact ⟨_,nl,aa0 hi,h3,h4⟩
theorem l4 {kinds:List Str} {rs:List Rl} {ws:List V} {g:Ky→Option Int} (bk:Bk kinds rs) (tw:Tw ws):(rowsOf kinds rs ws g).length≤60000:=by
 have h1:=me kinds rs ws g (aar bk.kl (by decide)) ws.length;have h2:=tw.len;have h1:(rowsOf kinds rs ws g).length≤60*ws.length:=h1;omega
theorem cut3 (a b c d:V):ib [a,b,c,d] none (some 3)=[a,b,c]:=mv [a,b,c,d] 3 (by show (3:Nat)≤4;decide)
noncomputable def j8 (r:Rw):Ky:=(r.place,r.kind)
theorem qy (fs:List Fr) (p:Nat) (g:Ky→Option Int):∀ks:List Str,(c8 ks fs p g).map j8=(ks.filter λk=>(g (p,k)).isSome).map λk=>(p,k)
 | []=>rfl
 | k::ks=>by
  have ih:=qy fs p g ks;unfold c8 at ih ⊢;rw[abz,aap];cases e:g (p,k) with
  | none=>simpa using ih
  | some v=>
   show j8 ⟨p,k,v,_⟩::_=_
   rw[if_pos (by rfl),aaw];congr 1
theorem jb {kinds:List Str} (h:kinds.Nodup):(az kinds).Nodup:=(g7 kinds).nodup_iff.mpr h
theorem oy {α β:Type} {f:α→β} (hf:∀a b,f a=f b→a=b):∀{l:List α},l.Nodup→(l.map f).Nodup
 | [],_=>aca
 | a::l,h=>by
  obtain ⟨h1,h2⟩:=List.nodup_cons.mp h;rw[aaw];refine List.nodup_cons.mpr ⟨λm=>?_,oy hf h2⟩;obtain ⟨b,hb,e⟩:=List.mem_map.mp m;exact h1 (hf _ _ e ▸ hb)
theorem m8 {kinds:List Str} (hk:kinds.Nodup) (rs:List Rl) (ws:List V) (g:Ky→Option Int):∀i,((mf kinds rs ws g i).map j8).Nodup∧∀k∈(mf kinds rs ws g i).map j8,k.1 < i
 | 0=>⟨aca,λk h=>nomatch h⟩
 | i+1=>by
  obtain ⟨h1,h2⟩:=m8 hk rs ws g i;rw[ju,aa6,qy];have one:∀k∈((az kinds).filter λk=>(g (i,k)).isSome).map (λk=>(i,k)),k.1=i:=λk hk=>by
   obtain ⟨z,_,rfl⟩:=List.mem_map.mp hk;rfl
  refine ⟨List.nodup_append.mpr ⟨h1,oy (λa b e=>(Prod.mk.inj e).2) ((jb hk).sublist acq),λa ha b hb e=>?_⟩,λk hk=>?_⟩
  ·have:=h2 a ha;have:=one b hb;rw[e] at*;omega
  ·rcases List.mem_append.mp hk with m | m
   ·have:=h2 k m;omega
   ·have:=one k m;omega
theorem j5 {kinds:List Str} {rs:List Rl} {ws:List V} {g:Ky→Option Int} {r:Rw} (h:r∈rowsOf kinds rs ws g):r.place < ws.length∧g (r.place,r.kind)=some r.price∧r.names=namesW (bq kinds rs ws r.place) g r.kind r.price:=by
 obtain ⟨p,hp,h⟩:=List.mem_flatMap.mp h;obtain ⟨k,hk,e⟩:=List.mem_filterMap.mp h;obtain ⟨v,hv,rfl⟩:=Option.map_eq_some_iff.mp e;exact ⟨List.mem_range.mp hp,hv,rfl⟩
theorem mj {kinds:List Str} {rs:List Rl} {ws:List V} {g:Ky→Option Int} (bk:Bk kinds rs) (T:Tbl (ee kinds rs ws) g) {k:Ky} {v:Int} (h:g k=some v):∃r∈rowsOf kinds rs ws g,r.place=k.1∧r.kind=k.2∧r.price=v:=by
 obtain ⟨f,hf,e,_⟩:=T.exact h;obtain ⟨p,hp,hf⟩:=List.mem_flatMap.mp hf;obtain ⟨f',hf',rfl⟩:=List.mem_map.mp hf;have e:(p,f'.kind)=k:=e;subst e;refine ⟨⟨p,f'.kind,v,namesW (bq kinds rs ws p) g f'.kind v⟩,List.mem_flatMap.mpr ⟨p,hp,List.mem_filterMap.mpr ⟨f'.kind,gp.mpr (i5 bk hf').2.1,?_⟩⟩,rfl,rfl,rfl⟩;rw[h];rfl
theorem Fy {κ:Type} [DecidableEq κ]:∀{ps:List (κ×V)} {k:κ} {v:V},(ps.map (·.1)).Nodup→(k,v)∈ps→cu ps k=some v
 | [],_,_,_,h=>nomatch h
 | p::ps,k,v,nd,h=>by
  have nd:(p.1::ps.map (·.1)).Nodup:=nd;obtain ⟨n1,n2⟩:=List.nodup_cons.mp nd;rcases List.mem_cons.mp h with e | h
  ·rw[bw (by rw[←e]),←e]
  ·have ne:¬p.1=k:=λe=>n1 (e ▸ List.mem_map.mpr ⟨_,h,rfl⟩);rw[bu ne];exact Fy n2 h
theorem vt {kinds:List Str} {rs:List Rl} {ws:List V} {g:Ky→Option Int} (bk:Bk kinds rs) {r:Rw} (h:r∈rowsOf kinds rs ws g) {nm:Str} (hn:nm∈r.names):∃(i:Nat) (rl:Rl) (u:Und),rs[i]?=some rl∧rl.name=nm∧rl.kind=r.kind∧bo kinds ws rl.shape r.place ⟨[],[],[]⟩=some u∧cost g rl.price (u.hs.zip (aq kinds rl.shape))=some r.price:=by
 rw[(j5 h).2.2] at hn;obtain ⟨f,hf,e⟩:=List.mem_map.mp hn;obtain ⟨hf,c⟩:=List.mem_filter.mp hf;obtain ⟨c1,c2⟩:=of_decide_eq_true c;obtain ⟨_,_,_,rl,hr,n1,n2,n3,u,hu,hh⟩:=i5 bk hf;obtain ⟨i,hi⟩:=List.mem_iff_getElem?.mp hr;exact ⟨i,rl,u,hi,by rw[n1,e],by rw[n2,c1],hu,by rw[n3,←hh];exact c2⟩
theorem qz {kinds:List Str} {rs:List Rl} {ws:List V} {g:Ky→Option Int} (T:Tbl (ee kinds rs ws) g) {p:Nat} (hp:p < ws.length) {r:Rl} (hr:r∈rs) {u:Und} (hu:bo kinds ws r.shape p ⟨[],[],[]⟩=some u) {c:Int} (hc:cost g r.price (u.hs.zip (aq kinds r.shape))=some c):∃v,g (p,r.kind)=some v∧v≤c:=by
 have hf:(⟨r.name,r.kind,r.price,u.hs.zip (aq kinds r.shape)⟩:Fr)∈bq kinds rs ws p:=List.mem_filterMap.mpr ⟨r,hr,by unfold ll;rw[hu];rfl⟩;exact T.st (eu p ⟨r.name,r.kind,r.price,u.hs.zip (aq kinds r.shape)⟩) (List.mem_flatMap.mpr ⟨p,List.mem_range.mpr hp,List.mem_map.mpr ⟨_,hf,rfl⟩⟩) c hc
theorem my {kinds:List Str} {rs:List Rl} {ws:List V} (bk:Bk kinds rs):∀f∈ee kinds rs ws,1≤f.own:=λf hf=>by
 obtain ⟨p,_,hf⟩:=List.mem_flatMap.mp hf;obtain ⟨f',hf',rfl⟩:=List.mem_map.mp hf;exact (i5 bk hf').1
def m4 (K:PySem.W.Frag):Sp:=λvs H Q _=>∃(kt st:Addr) (kinds:List Str) (sh:List V),vs=[.ref kt,.ref st]∧SqT K H kt (kinds.map V.str)∧SqT K H st sh∧(∀v∈sh,isW v)∧sh.length≤1000∧∀(l:Addr) (H':Hp),ah H H'→H l=none→H' l=some (.lst ((aq kinds sh).map V.str))→Q (.ref l) H'
end Pc
namespace L2
theorem ob3 {α0 α1 α2:Type} {p:α0→α1→α2→Prop} {g:Prop} (h:∃a0 a1 a2,p a0 a1 a2) (k:∀a0 a1 a2,p a0 a1 a2→g):g:=by
 obtain ⟨a0,a1,a2,h⟩:=h;exact k a0 a1 a2 h
theorem ob4 {α0 α1 α2 α3:Type} {p:α0→α1→α2→α3→Prop} {g:Prop} (h:∃a0 a1 a2 a3,p a0 a1 a2 a3) (k:∀a0 a1 a2 a3,p a0 a1 a2 a3→g):g:=by
 obtain ⟨a0,a1,a2,a3,h⟩:=h;exact k a0 a1 a2 a3 h
theorem ob5 {α0 α1 α2 α3 α4:Type} {p:α0→α1→α2→α3→α4→Prop} {g:Prop} (h:∃a0 a1 a2 a3 a4,p a0 a1 a2 a3 a4) (k:∀a0 a1 a2 a3 a4,p a0 a1 a2 a3 a4→g):g:=by
 obtain ⟨a0,a1,a2,a3,a4,h⟩:=h;exact k a0 a1 a2 a3 a4 h
theorem ob6 {α0 α1 α2 α3 α4 α5:Type} {p:α0→α1→α2→α3→α4→α5→Prop} {g:Prop} (h:∃a0 a1 a2 a3 a4 a5,p a0 a1 a2 a3 a4 a5) (k:∀a0 a1 a2 a3 a4 a5,p a0 a1 a2 a3 a4 a5→g):g:=by
 obtain ⟨a0,a1,a2,a3,a4,a5,h⟩:=h;exact k a0 a1 a2 a3 a4 a5 h
theorem ob7 {α0 α1 α2 α3 α4 α5 α6:Type} {p:α0→α1→α2→α3→α4→α5→α6→Prop} {g:Prop} (h:∃a0 a1 a2 a3 a4 a5 a6,p a0 a1 a2 a3 a4 a5 a6) (k:∀a0 a1 a2 a3 a4 a5 a6,p a0 a1 a2 a3 a4 a5 a6→g):g:=by
 obtain ⟨a0,a1,a2,a3,a4,a5,a6,h⟩:=h;exact k a0 a1 a2 a3 a4 a5 a6 h
theorem ob8 {α0 α1 α2 α3 α4 α5 α6 α7:Type} {p:α0→α1→α2→α3→α4→α5→α6→α7→Prop} {g:Prop} (h:∃a0 a1 a2 a3 a4 a5 a6 a7,p a0 a1 a2 a3 a4 a5 a6 a7) (k:∀a0 a1 a2 a3 a4 a5 a6 a7,p a0 a1 a2 a3 a4 a5 a6 a7→g):g:=by
 obtain ⟨a0,a1,a2,a3,a4,a5,a6,a7,h⟩:=h;exact k a0 a1 a2 a3 a4 a5 a6 a7 h
theorem ob10 {α0 α1 α2 α3 α4 α5 α6 α7 α8 α9:Type} {p:α0→α1→α2→α3→α4→α5→α6→α7→α8→α9→Prop} {g:Prop} (h:∃a0 a1 a2 a3 a4 a5 a6 a7 a8 a9,p a0 a1 a2 a3 a4 a5 a6 a7 a8 a9) (k:∀a0 a1 a2 a3 a4 a5 a6 a7 a8 a9,p a0 a1 a2 a3 a4 a5 a6 a7 a8 a9→g):g:=by
 obtain ⟨a0,a1,a2,a3,a4,a5,a6,a7,a8,a9,h⟩:=h;exact k a0 a1 a2 a3 a4 a5 a6 a7 a8 a9 h
open PySem PySem.Spec PyProof.Rows
theorem Bq {K:PySem.W.Frag} {n:Nat} {a:Addr} {x0 x1:V} {i0 i1:Nat} {σ:L2.St} {H:Hp} {Q:L2.St→Hp→Prop} (h:H a=some (.tup [x0,x1])) (hn:2=n) (q:Q ((σ.set i0 (some x0)).set i1 (some x1)) H):vw K n (dr (cb i0) (dr (cb i1) Bx)) (.ref a) σ H Q:=⟨a,_,rfl,SqT.of h,hn,_,_,rfl,_,_,rfl,rfl,q⟩
theorem Bc {K:PySem.W.Frag} {n:Nat} {a:Addr} {x0 x1 x2 x3:V} {i0 i1 i2 i3:Nat} {σ:L2.St} {H:Hp} {Q:L2.St→Hp→Prop} (h:H a=some (.tup [x0,x1,x2,x3])) (hn:4=n) (q:Q ((((σ.set i0 (some x0)).set i1 (some x1)).set i2 (some x2)).set i3 (some x3)) H):vw K n (dr (cb i0) (dr (cb i1) (dr (cb i2) (dr (cb i3) Bx)))) (.ref a) σ H Q:=⟨a,_,rfl,SqT.of h,hn,_,_,rfl,_,_,rfl,_,_,rfl,_,_,rfl,rfl,q⟩
theorem J7 {K:PySem.W.Frag} {n:Nat} {a:Addr} {x0 x1 x2 x3 x4:V} {i0 i1 i2 i3 i4:Nat} {σ:L2.St} {H:Hp} {Q:L2.St→Hp→Prop} (h:H a=some (.tup [x0,x1,x2,x3,x4])) (hn:5=n) (q:Q (((((σ.set i0 (some x0)).set i1 (some x1)).set i2 (some x2)).set i3 (some x3)).set i4 (some x4)) H):vw K n (dr (cb i0) (dr (cb i1) (dr (cb i2) (dr (cb i3) (dr (cb i4) Bx))))) (.ref a) σ H Q:=⟨a,_,rfl,SqT.of h,hn,_,_,rfl,_,_,rfl,_,_,rfl,_,_,rfl,_,_,rfl,rfl,q⟩
end L2
namespace Pc
open PySem PySem.Spec L2 PyProof.Rows Fm
theorem Pe {K:PySem.W.Frag} {v:V} {kt:Addr} {kinds:List Str} {H:Hp} {Q:VK} {E:XK} (p0:isW v) (p1:SqT K H kt (kinds.map V.str)) (p2:Q (.str (br kinds v)) H):(ky K) [v,.ref kt] H Q E:=⟨v,kt,kinds,rfl,p0,p1,p2⟩
theorem mkLies {l:Str} {v x:V} {H:Hp} {Q:VK} {E:XK} (p0:isW v) (p1:isW x) (p2:Q (.bl (lies l v x)) H):Er [.str l,v,x] H Q E:=⟨l,v,x,rfl,p0,p1,p2⟩
theorem Je {K:PySem.W.Frag} {st kt wt:Addr} {sh:List V} {kinds:List Str} {ws:List V} {p n:Nat} {H:Hp} {Q:VK} {E:XK} (p0:SqT K H st sh) (p1:SqT K H kt (kinds.map V.str)) (p2:SqT K H wt ws) (p3:Kinds kinds) (p4:(∀v∈sh,isW v)) (p5:(∀v∈ws,isW v)) (p6:isTerm sh) (p7:eat 1 ((ws.drop p).map arV)=some n) (p8:sh.length≤1000) (p9:ws.length≤1000) (p10:∀H',ah H H'→told (bo kinds ws sh p ⟨[],[],[]⟩) H' Q):(zz K) [.ref st,.ref kt,.ref wt,.int (p:Int)] H Q E:=⟨st,kt,wt,sh,kinds,ws,p,n,rfl,p0,p1,p2,p3,p4,p5,p6,p7,p8,p9,p10⟩
theorem mkEnds {K:PySem.W.Frag} {t:Addr} {ws:List V} {H:Hp} {Q:VK} {E:XK} (p0:SqT K H t ws) (p1:(∀v∈ws,isW v)) (p2:isTerm ws) (p3:ws.length≤1000) (p4:∀(l:Addr) (H':Hp),ah H H'→H l=none→H' l=some (.lst ((aaq ws.length).map λq=>plV (endAt ws q)))→Q (.ref l) H'):(Dy K) [.ref t] H Q E:=⟨t,ws,rfl,p0,p1,p2,p3,p4⟩
theorem Qu {K:PySem.W.Frag} {st kt wt et:Addr} {sh:List V} {kinds:List Str} {ws:List V} {p:Nat} {H:Hp} {Q:VK} {E:XK} (p0:SqT K H st sh) (p1:SqT K H kt (kinds.map V.str)) (p2:SqT K H wt ws) (p3:H et=some (.lst ((aaq ws.length).map λq=>plV (endAt ws q)))) (p4:Kinds kinds) (p5:(∀v∈sh,isW v)) (p6:isTerm sh) (p7:sh.length≤1000) (p8:Tw ws) (p9:p < ws.length) (p10:∀H',ah H H'→told (bo kinds ws sh p ⟨[],[],[]⟩) H' Q):(rh K) [.ref kt,.ref st,.ref wt,.ref et,.int (p:Int)] H Q E:=⟨st,kt,wt,et,sh,kinds,ws,p,rfl,p0,p1,p2,p3,p4,p5,p6,p7,p8,p9,p10⟩
theorem Qh {d nl b:Addr} {ns:List Int} {zs:List Str} {m n:Nat} {H:Hp} {Q:VK} {E:XK} (p0:fq H d b ns n) (p1:cx H nl zs) (p2:1≤m) (p3:m≤120) (p4:n≤50000) (p5:∀(t:Addr) (n':Nat) (H':Hp) (ws:List V),ao d H H'→H' d=some (.lst [.ref b,.int (n':Int)])→n'≤n+m→H t=none→H' t=some (.tup ws)→Tw ws→ws.length≤m→Q (.ref t) H'):Ab [.ref d,.ref nl,.int (m:Int)] H Q E:=⟨d,nl,b,ns,zs,m,n,rfl,p0,p1,p2,p3,p4,p5⟩
theorem Ow {d kt b:Addr} {ns:List Int} {kinds:List Str} {n:Nat} {H:Hp} {Q:VK} {E:XK} (p0:fq H d b ns n) (p1:H kt=some (.tup (kinds.map V.str))) (p2:Kinds kinds) (p3:1≤kinds.length) (p4:kinds.length≤20) (p5:n≤50000) (p6:∀(t:Addr) (n':Nat) (H':Hp) (sh:List V),ao d H H'→H' d=some (.lst [.ref b,.int (n':Int)])→n'≤n+12→H t=none→H' t=some (.tup sh)→jr kinds sh→Q (.ref t) H'):yp [.ref d,.ref kt] H Q E:=⟨d,kt,b,ns,kinds,n,rfl,p0,p1,p2,p3,p4,p5,p6⟩
theorem Py {K:PySem.W.Frag} {kt st:Addr} {kinds:List Str} {sh:List V} {H:Hp} {Q:VK} {E:XK} (p0:H kt=some (.tup (kinds.map V.str))) (p1:H st=some (.tup sh)) (p2:Kinds kinds) (p3:jr kinds sh) (p4:∀(t:Addr) (ds:List V) (H':Hp),ah H H'→H' t=some (.tup ds)→Q (.ref t) H'):(zo K) [.ref kt,.ref st] H Q E:=⟨kt,st,kinds,sh,rfl,p0,p1,p2,p3,p4⟩
theorem mkBook {d nl b:Addr} {ns:List Int} {zs:List Str} {n:Nat} {H:Hp} {Q:VK} {E:XK} (p0:fq H d b ns n) (p1:cx H nl zs) (p2:n≤1000) (p3:∀(bt:Addr) (n':Nat) (H':Hp) (kinds:List Str) (rs:List Rl),ao d H H'→H' d=some (.lst [.ref b,.int (n':Int)])→n'≤n+1000→bh H' bt kinds rs→Bk kinds rs→1≤rs.length→(∀r∈rs,r.name∈zs)→(∀z∈kinds,z∈zs)→Q (.ref bt) H'):Fd [.ref d,.ref nl] H Q E:=⟨d,nl,b,ns,zs,n,rfl,p0,p1,p2,p3⟩
theorem Ml {d b:Addr} {ns:List Int} {n:Nat} {H:Hp} {Q:VK} {E:XK} (p0:fq H d b ns n) (p1:n≤1000) (p2:∀(l:Addr) (H':Hp) (zs:List Str),ao d H H'→H' d=some (.lst [.ref b,.int ((n+1:Nat):Int)])→cx H' l zs→(∀z∈zs,c4 z)→Q (.ref l) H'):vg [.ref d] H Q E:=⟨d,b,ns,n,rfl,p0,p1,p2⟩
theorem Bl {K:PySem.W.Frag} {st kt ut:Addr} {sh:List V} {kinds:List Str} {u:Und} {H:Hp} {Q:VK} {E:XK} (p0:SqT K H st sh) (p1:SqT K H kt (kinds.map V.str)) (p2:qj H ut u) (p3:Kinds kinds) (p4:(∀v∈sh,isW v)) (p5:sh.length≤1000) (p6:u.hs.length=(aq kinds sh).length) (p7:∀(l:Addr) (H':Hp),ah H H'→H l=none→rf H' l (u.hs.zip (aq kinds sh))→Q (.ref l) H'):(m9 K) [.ref st,.ref kt,.ref ut] H Q E:=⟨st,kt,ut,sh,kinds,u,rfl,p0,p1,p2,p3,p4,p5,p6,p7⟩
theorem Ja {b wt:Addr} {kinds:List Str} {rs:List Rl} {ws:List V} {p:Nat} {H:Hp} {Q:VK} {E:XK} (p0:bh H b kinds rs) (p1:H wt=some (.tup ws)) (p2:Bk kinds rs) (p3:Tw ws) (p4:p < ws.length) (p5:∀(l:Addr) (as:List Addr) (H':Hp),ah H H'→H l=none→H' l=some (.lst (as.map V.ref))→df H' (λx=>H x≠none) as (bq kinds rs ws p)→Q (.ref l) H'):pq [.ref b,.ref wt,.int (p:Int)] H Q E:=⟨b,wt,kinds,rs,ws,p,rfl,p0,p1,p2,p3,p4,p5⟩
theorem Pg {own:Int} {hl d:Addr} {hs:List Ky} {g:Ky→Option Int} {n:Nat} {H:Hp} {Q:VK} {E:XK} (p0:rf H hl hs) (p1:c9 H d g n) (p2:Q (match cost g own hs with | none=>.non | some c=>.int c) H):la [.int own,.ref hl,.ref d] H Q E:=⟨own,hl,d,hs,g,n,rfl,p0,p1,p2⟩
theorem Jp {p:Nat} {fl d:Addr} {as:List Addr} {fs:List Fr} {g:Ky→Option Int} {n:Nat} {H:Hp} {Q:VK} {E:XK} (p0:H fl=some (.lst (as.map V.ref))) (p1:df H (λ_=>False) as fs) (p2:c9 H d g n) (p3:n+fs.length≤1000000) (p4:(∀f∈fs,1≤f.own)) (p5:(∀k v,g k=some v→1≤v)) (p6:(∀k,k.1=p→g k=none)) (p7:∀(H':Hp) (g':Ky→Option Int),ao d H H'→c9 H' d g' (n+fs.length)→kb (fs.map (eu p)) g'→(∀k,k.1≠p→g' k=g k)→(∀k v,k.1=p→g' k=some v→∃f∈fs.map (eu p),f.key=k∧∃c,cost g' f.own f.hs=some c∧c≤v)→(∀k v,g' k=some v→1≤v)→Q .non H'):vj [.int (p:Int),.ref fl,.ref d] H Q E:=⟨p,fl,d,as,fs,g,n,rfl,p0,p1,p2,p3,p4,p5,p6,p7⟩
theorem mkWith {k:Str} {v:Int} {fl d:Addr} {as:List Addr} {fs:List Fr} {g:Ky→Option Int} {n:Nat} {H:Hp} {Q:VK} {E:XK} (p0:H fl=some (.lst (as.map V.ref))) (p1:df H (λ_=>False) as fs) (p2:fs.length≤1000) (p3:c9 H d g n) (p4:∀(l:Addr) (H':Hp),ah H H'→H l=none→H' l=some (.lst ((namesW fs g k v).map V.str))→Q (.ref l) H'):Dq [.str k,.int v,.ref fl,.ref d] H Q E:=⟨k,v,fl,d,as,fs,g,n,rfl,p0,p1,p2,p3,p4⟩
theorem P8 {b fl d:Addr} {p:Nat} {kinds:List Str} {rs:List Rl} {as:List Addr} {fs:List Fr} {g:Ky→Option Int} {n:Nat} {H:Hp} {Q:VK} {E:XK} (p0:bh H b kinds rs) (p1:kinds.length≤60) (p2:H fl=some (.lst (as.map V.ref))) (p3:df H (λ_=>False) as fs) (p4:fs.length≤1000) (p5:c9 H d g n) (p6:∀(l:Addr) (bs:List Addr) (H':Hp),ah H H'→H l=none→H' l=some (.lst (bs.map V.ref))→cn H' (λx=>H x≠none) bs (c8 (az kinds) fs p g)→Q (.ref l) H'):yr [.ref b,.int (p:Int),.ref fl,.ref d] H Q E:=⟨b,fl,d,p,kinds,rs,as,fs,g,n,rfl,p0,p1,p2,p3,p4,p5,p6⟩
theorem Bu {b wt:Addr} {kinds:List Str} {rs:List Rl} {ws:List V} {H:Hp} {Q:VK} {E:XK} (p0:bh H b kinds rs) (p1:H wt=some (.tup ws)) (p2:Bk kinds rs) (p3:Tw ws) (p4:∀(l:Addr) (bs:List Addr) (H':Hp) (g:Ky→Option Int),ah H H'→H l=none→H' l=some (.lst (bs.map V.ref))→Tbl (ee kinds rs ws) g→rb H' bs (rowsOf kinds rs ws g)→Q (.ref l) H'):nk [.ref b,.ref wt] H Q E:=⟨b,wt,kinds,rs,ws,rfl,p0,p1,p2,p3,p4⟩
theorem K5 {K:PySem.W.Frag} {kt st:Addr} {kinds:List Str} {sh:List V} {H:Hp} {Q:VK} {E:XK} (p0:SqT K H kt (kinds.map V.str)) (p1:SqT K H st sh) (p2:(∀v∈sh,isW v)) (p3:sh.length≤1000) (p4:∀(l:Addr) (H':Hp),ah H H'→H l=none→H' l=some (.lst ((aq kinds sh).map V.str))→Q (.ref l) H'):(m4 K) [.ref kt,.ref st] H Q E:=⟨kt,st,kinds,sh,rfl,p0,p1,p2,p3,p4⟩
theorem lu {d b:Addr} {ns:List Int} {n:Nat} {H:Hp} {Q:VK} {E:XK} (p0:fq H d b ns n) (p1:n≤100000) (p2:∀(c:Int) (H':Hp),ao d H H'→H' d=some (.lst [.ref b,.int ((n+1:Nat):Int)])→Q (.int c) H'):jw [.ref d] H Q E:=⟨d,b,ns,n,rfl,p0,p1,p2⟩
end Pc
namespace L2
open PySem PySem.Spec PyProof.Rows
end L2
namespace Pc
open PySem PySem.Spec L2 PyProof.Rows Fm
theorem Lo {K:PySem.W.Frag} {n:Nat} {a:Addr} {x0 x1 x2:V} {i0 i1 i2:Nat} {σ:L2.St} {H:Hp} {Q:L2.St→Hp→Prop} (h:H a=some (.tup [x0,x1,x2])) (hn:3=n) (q:Q (((σ.set i0 (some x0)).set i1 (some x1)).set i2 (some x2)) H):vw K n (dr (cb i0) (dr (cb i1) (dr (cb i2) Bx))) (.ref a) σ H Q:=⟨a,_,rfl,SqT.of h,hn,_,_,rfl,_,_,rfl,_,_,rfl,rfl,q⟩
end Pc
namespace L2
open PySem PySem.Spec PyProof.Rows
def gi (H:Hp) (as:List Addr) (xs:List (List Key)):Prop:=as.length=xs.length∧∀(j:Nat) (x:List Key),xs[j]?=some x→∃a,as[j]?=some a∧H a=some (.tup (x.map kV))
theorem Oc {a b:Key} (h:kV a=kV b):a=b:=by
 cases a <;> cases b <;> simp[kV] at h <;> rw[h]
theorem Cc:∀{a b:List Key},a.map kV=b.map kV→a=b
 | [],[],_=>rfl
 | [],_::_,h=>by cases h
 | _::_,[],h=>by cases h
 | x::a,y::b,h=>by
  have h:kV x::a.map kV=kV y::b.map kV:=h;obtain ⟨h1,h2⟩:=abh h;rw[Oc h1,Cc h2]
theorem xq {α:Type} [DecidableEq α] {as bs:List α} (hl:as.length=bs.length):((aaq as.length).all λj=>decide (as[j]?=bs[j]?))=decide (as=bs):=by
 rw[ac4,af2,decide_eq_true_eq];constructor
 ·intro h;apply ad6
  intro j;by_cases hj:j < as.length
  ·exact of_decide_eq_true (h j (List.mem_range.mpr hj))
  ·rw[List.getElem?_eq_none_iff.mpr (by omega),List.getElem?_eq_none_iff.mpr (by omega)]
 ·intro h j _;rw[h];exact decide_eq_true rfl
section
variable {P:Program} {w:World} {A:Around} {s:Shared} {H:Hp}
theorem J8 {m m':Addr} {n n':List Key} (ok:HOk P w H s.heap) (h1:H m=some (.tup (n.map kV))) (h2:H m'=some (.tup (n'.map kV))) (hu:A.units < cLine):SeqAt.EqAt A s (.ref m) (.ref m') (decide (n=n')):=by
 by_cases e:m=m'
 ·subst e;rw[h1] at h2;rw[decide_eq_true (Cc (HO.tup.inj (aa3 h2)))];exact SeqAt.EqAt.same _
 obtain ⟨_,i1,r1,p1⟩:=(y9 ok h1);obtain ⟨_,i2,r2,p2⟩:=(y9 ok h2);have l1:=r1.length;have l2:=r2.length;rw[aa1] at l1 l2;refine SeqAt.EqAt.of_refs e λP' w' E Q q=>SeqAt.RcAt.tuples (e:=λj=>decide (n[j]?=n'[j]?)) (show s.heap.IsTuple m i1.toArray from p1) (show s.heap.IsTuple m' i2.toArray from p2) hu (λj h1 h2=>yb (A:=A.in1) (s:=s) r1 r2 j h1 h2) P' w' E Q ?_;rw[aa5,aa5,←l1,←l2];by_cases hl:n.length=n'.length
 ·rw[←hl,ae2,xq hl];simpa using q
 ·have:¬n=n':=λe=>hl (by rw[e]);rw[decide_eq_false this] at q;rw[beq_eq_false_iff_ne.mpr hl,adk];exact q
end
section
variable {X:Cx}
def rNeLT:R2:=λx y H Q=>∃a b as bs xs ys,x=.ref a∧y=.ref b∧H a=some (.lst (as.map V.ref))∧H b=some (.lst (bs.map V.ref))∧gi H as xs∧gi H bs ys∧Q (.bl (!decide (xs=ys))) H
theorem Rh (hu:X.A.units+8 < cLine):OpR X (compareOp .NotEq) rNeLT:=by
 intro pins s σ H x y v u Q I rx ry h;obtain ⟨a,b,as,bs,xs,ys,rfl,rfl,ha,hb,tx,ty,q⟩:=h;cases rx
 cases ry
 obtain ⟨its,r1,p1,_⟩:=I.list (SqL.of ha);obtain ⟨its2,r2,p2,_⟩:=I.list (SqL.of hb);have l1:=r1.length;have l2:=r2.length;rw[aa1,tx.1] at l1;rw[aa1,ty.1] at l2;by_cases hl:xs.length=ys.length
 ·refine SeqAt.RcNeAt.lists (e:=λj=>decide (xs[j]?=ys[j]?)) p1.isList p2.isList (by rw[aa5,aa5,←l1,←l2,hl]) (by omega) (λj h1 h2=>?_) _ _ _ _ ?_
  ·have hj:j < xs.length:=by rw[aa5] at h1;omega
   have hj2:j < ys.length:=by rw[aa5] at h2;omega
   obtain ⟨t,q1,q2⟩:=tx.2 j xs[j] (aa0 hj);obtain ⟨t',q1',q2'⟩:=ty.2 j ys[j] (aa0 hj2);obtain ⟨u,hu1,ru⟩:=r1.get (i:=j) (x:=V.ref t) (by rw[aaa,q1];rfl);obtain ⟨u',hu2,ru'⟩:=r2.get (i:=j) (x:=V.ref t') (by rw[aaa,q1'];rfl);cases (show u=Value.ref t from ru)
   cases (show u'=Value.ref t' from ru')
   have g1:its.toArray[j]=Value.ref t:=by
    have:its[j]'(by simpa using h1)=Value.ref t:=by rw[aa0 (by simpa using h1)] at hu1;exact aa3 hu1
    simpa using this
   have g2:its2.toArray[j]=Value.ref t':=by
    have:its2[j]'(by simpa using h2)=Value.ref t':=by rw[aa0 (by simpa using h2)] at hu2;exact aa3 hu2
    simpa using this
   rw[g1,g2,aa0 hj,aa0 hj2];have d:decide (some xs[j]=some ys[j])=decide (xs[j]=ys[j]):=decide_eq_decide.mpr ⟨λz=>aa3 z,λz=>by rw[z]⟩;rw[d];exact J8 (A:=X.A.in1) I.hok q2 q2' (by show X.A.units+1 < cLine;omega)
  ·refine bj I q ?_;rw[aa5,←l1,xq hl]
 ·refine SeqAt.RcNeAt.lists_lengths p1.isList p2.isList (by rw[aa5,aa5,←l1,←l2];simpa using hl) (by omega) _ _ _ _ ?_;refine bj I q ?_;rw[decide_eq_false λe=>hl (by rw[e])];rfl
end
section
open Srt
variable {P:Program} {w:World} {A:Around} {H:Hp}
end
end L2
namespace Pc
open PySem PySem.Spec L2 PyProof.Rows Fm
theorem Bw (H:Hp):gi H [] []:=⟨rfl,λj x h=>by simp at h⟩
theorem kr {H H':Hp} {as:List Addr} {xs:List (List Key)} (h:gi H as xs) (s:TK H H'):gi H' as xs:=⟨h.1,λj x e=>by
 obtain ⟨a,h1,h2⟩:=h.2 j x e;exact ⟨a,h1,s _ _ h2⟩⟩
theorem ye {H:Hp} {as:List Addr} {xs:List (List Key)} (h:gi H as xs) {a:Addr} {x:List Key} (ha:H a=some (.tup (x.map kV))):gi H (as++[a]) (xs++[x]):=by
 refine ⟨by rw[aa2,aa2,h.1];rfl,λi r' hi=>?_⟩;by_cases c':i < xs.length
 ·rw[aag c'] at hi;obtain ⟨a',g1,g2⟩:=h.2 i r' hi;exact ⟨a',by rw[aag (by rw[h.1];exact c')];exact g1,g2⟩
 ·rw[aad (by omega)] at hi;have hz:i - xs.length=0:=by
   rcases abl (i - xs.length) with g | g
   ·exact g
   ·rw[ab9 (by rw[aac];omega)] at hi;cases hi
  rw[hz] at hi;cases hi
  exact ⟨a,by rw[aad (by rw[h.1];omega),h.1,hz];rfl,ha⟩
end Pc
namespace L2
open PySem PySem.Spec PyProof.Rows
structure eo (fs ch:List Addr) (h h':Heap):Prop where
 keep:∀b o,h.get? b=some o→b∉fs→b∉ch→h'.get? b=some o
 slot:∀b o,h.get? b=some o→b∉ch→∃sl,h'.get? b=some { o with slots:=sl }
theorem eo.refl {fs ch:List Addr} {h:Heap}:eo fs ch h h:=⟨λ_ _ e _ _=>e,λ_ o e _=>⟨o.slots,e⟩⟩
theorem eo.un {fs ch:List Addr} {H:Hp} {h h':Heap} (t:eo fs ch h h') (hc:∀b∈ch,∃o,h'.get? b=some o):Un fs ch H H h h' where
 keep:=λb o e _ hb hx=>t.keep b o e hb hx
 slot:=λb o e _ _ hx=>t.slot b o e hx
 free:=λ_ _ _ n _=>n
 there:=λb o e hx=>let ⟨_,q⟩:=t.slot b o e hx;⟨_,q⟩
 tups:=λ_ _ e=>e
 frzs:=λ_ _ _ e=>e
 tbls:=λ_ _ e=>⟨#[],by rw[e];simp⟩
theorem eo.hok {P:Program} {w:World} {fs ch:List Addr} {H:Hp} {h h':Heap} (t:eo fs ch h h') (ok:HOk P w H h) (hf:∀b∈fs,H b=none) (hc:∀b∈ch,H b=none):HOk P w H h':=λb u e=>
 (ok b u e).Bi (λc v hcb q=>by
  have key:∀{z},H c=some z→h'.get? c=some v:=λ{z} hz=>t.keep c v q (λx=>by rw[hf c x] at hz;cases hz) λx=>by rw[hc c x] at hz;cases hz
  rcases hcb with rfl | hcb
  ·exact key e
  ·exact key hcb) (λ_ q=>q) λ_ _ q=>q
structure Fly (n:Nat) (H:Hp) (h:Heap) (a:Addr) (cls:Value) (dx:Option Addr):Prop where
 lo:n≤a
 un:H a=none
 ob:∃oe vs,h.get? a=some oe∧oe.cls=cls∧oe.dict=dx∧oe.data=.fields vs∧1 < vs.size∧
  (vs[1]?=some .none∨∃T oT ts,vs[1]?=some (.ref T)∧n≤T∧H T=none∧T≠a∧h.get? T=some oT∧oT.data=.fields ts∧3 < ts.size)
structure uo (n:Nat) (H:Hp) (h:Heap) (a:Addr) (cls:Value) (dx:Option Addr):Prop where
 lo:n≤a
 un:H a=none
 ob:∃oe vs,h.get? a=some oe∧oe.cls=cls∧oe.dict=dx∧oe.data=.fields vs∧1 < vs.size∧
  ∃T oT ts,vs[1]?=some (.ref T)∧n≤T∧H T=none∧T≠a∧h.get? T=some oT∧oT.data=.fields ts∧3 < ts.size
section
variable {n m:Nat} {H:Hp} {h:Heap} {a:Addr} {cls:Value} {dx:Option Addr}
theorem uo.fly (x:uo n H h a cls dx):Fly n H h a cls dx:=let ⟨oe,vs,h1,h2,h3,h4,h5,h6⟩:=x.ob;⟨x.lo,x.un,oe,vs,h1,h2,h3,h4,h5,.inr h6⟩
theorem Fly.le (x:Fly n H h a cls dx) (hm:m≤n):Fly m H h a cls dx:=by
 obtain ⟨oe,vs,h1,h2,h3,h4,h5,h6⟩:=x.ob;refine ⟨aar hm x.lo,x.un,oe,vs,h1,h2,h3,h4,h5,?_⟩;rcases h6 with h6 | ⟨T,oT,ts,k1,k2,k3,k4,k5,k6,k7⟩
 ·exact .inl h6
 ·exact .inr ⟨T,oT,ts,k1,aar hm k2,k3,k4,k5,k6,k7⟩
end
section
variable {M:Model} {A:Around} {E:Value→Shared→Prop} {s:Shared} {n:Nat} {H:Hp} {a:Addr} {cls:Value} {dx:Option Addr}
theorem sv (o:Obj) (f:Array Value→Array Value):(o.mapFields f).dict=o.dict:=by
 obtain ⟨c,d,dt,sl⟩:=o;cases dt <;> rfl
theorem wb {fr:Option Addr} {Q:Unit→Shared→Prop} {fs:List Addr} (F:uo n H s.heap a cls dx)
  (q:∀h' ch,(∀b∈ch,n≤b∧H b=none∧∃o,h'.get? b=some o)→eo fs ch s.heap h'→uo n H h' a cls dx→Q () { s with heap:=h' }):wpAny M A (setFlight (.ref a) fr) Q E s:=by
 obtain ⟨oe,vs,h1,h2,h3,h4,h5,T,oT,ts,k1,k2,k3,k4,k5,k6,k7⟩:=F.ob;unfold setFlight;refine wpAny_bind (wpAny_field h1 h4 k1 ?_);rw[if_pos (show (Value.ref T !=Value.none)=true from by simp)];refine wpAny_setField k5 k6 k7 ?_;have self:=Heap.get?_update_self (Obj.mapFields (·.setIfInBounds 3 (fr.elim Value.none λf=>rawInt f))) k5 (Obj.isFreed_of_fields (Obj.data_mapFields k6 _));have other:∀b o,b≠T→s.heap.get? b=some o→(s.heap.update T (Obj.mapFields (·.setIfInBounds 3 (fr.elim Value.none λf=>rawInt f)))).get? b=some o:=λb o hb e=>(Heap.get?_update_other _ _ (Ne.symm hb)).trans e;refine q _ [T] (λb hb=>?_) ⟨λb o e _ hb=>other b o (λz=>hb (by simp[z])) e,λb o e hb=>⟨o.slots,other b o (λz=>hb (by simp[z])) e⟩⟩ ⟨F.lo,F.un,oe,vs,other a oe (Ne.symm k4) h1,h2,h3,h4,h5,T,_,_,k1,k2,k3,k4,self,Obj.data_mapFields k6 _,by simpa using k7⟩;obtain rfl:b=T:=by simpa using hb
 exact ⟨k2,k3,_,self⟩
theorem wm {base:Heap} {iy env:Env} {outer:List Env} {L:Addr} {hadNext:Bool} {head:Value} {oe:Obj} {vs:Array Value} {Q:Unit→Shared→Prop}
  (hfr:A.frames=some (iy::outer)) (hl:s.heap.FunFrames base (iy::outer)) (hf0:iy.frame=some L) (hf:env.frame=some L) (lo:n≤a) (un:H a=none) (fresh:∀b,s.heap.objs.size≤b→H b=none)
  (h1:s.heap.get? a=some oe) (h2:oe.cls=cls) (h3:oe.dict=dx) (h4:oe.data=.fields vs) (h5:1 < vs.size)
  (q:∀h' ch,(∀b∈ch,n≤b∧H b=none∧∃o,h'.get? b=some o)→eo (frs (iy::outer)) ch s.heap h'→uo n H h' a cls dx→Q () { s with heap:=h' }):
  wpAny M A (do let f ←PySem.frameOf env;let pl ←entryPlaceOf L hadNext;let t ←EntryCells.newEntry head f .none (rawInt L) .none pl;setField (.ref a) 1 t) Q E s:=by
 have na:a∉frs (iy::outer):=λhm=>by
  obtain ⟨_,o,ho,hnf⟩:=hl.mem hm;rw[h1] at ho;cases ho
  exact hnf vs h4
 have e0:PySem.frameOf env=PySem.frameOf iy:=by unfold PySem.frameOf;rw[hf,hf0]
 rw[e0];refine wpAny_bind (wpAny_frameOf_fun hfr hl hf0 λg sl=>?_);refine wpAny_bind (wpAny_entryPlaceOf λpl hpl=>?_);unfold EntryCells.newEntry newFields;refine wpAny_bind (wpAny_newObj_type ?_ (hpl.sizeOk5 _ _ _ _ _));generalize ht:([head,Value.ref L,.none,rawInt L,.none]++(if pl.isEmpty then aak 6 Value.none else pl)).toArray=ts;have hts:3 < ts.size:=by rw[←ht];simp only[aa5,aa2,aai,acf] <;> omega
 have g1:g.get? a=some oe:=(sl.2.1 a na).trans h1;have sz:g.objs.size=s.heap.objs.size:=sl.1;have p1:(g.push { cls:=.type "traceback",dict:=none,data:=.fields ts }).get? a=some oe:=Heap.get?_push_of_some _ g1;refine wpAny_setField p1 h4 h5 ?_;have na2:g.objs.size≠a:=abc (Heap.lt_size g1);have d1:=Obj.data_mapFields h4 (·.setIfInBounds 1 (Value.ref g.objs.size));have u1:=Heap.get?_update_self (Obj.mapFields (·.setIfInBounds 1 (Value.ref g.objs.size))) p1 (Obj.isFreed_of_fields d1);have u2:((g.push { cls:=.type "traceback",dict:=none,data:=.fields ts }).update a (Obj.mapFields (·.setIfInBounds 1 (Value.ref g.objs.size)))).get? g.objs.size=some { cls:=.type "traceback",dict:=none,data:=.fields ts }:=
  (Heap.get?_update_other _ _ (Ne.symm na2)).trans (Heap.get?_push_size g rfl)
 have other:∀b o,b≠a→g.get? b=some o→((g.push { cls:=.type "traceback",dict:=none,data:=.fields ts }).update a (Obj.mapFields (·.setIfInBounds 1 (Value.ref g.objs.size)))).get? b=some o:=λb o hb e=>
  (Heap.get?_update_other _ _ (Ne.symm hb)).trans (Heap.get?_push_of_some _ e)
 refine q _ [a] (λb hb=>?_) ⟨λb o e hb hc=>other b o (λz=>hc (by simp[z])) ((sl.2.1 b hb).trans e),λb o e hc=>?_⟩ ⟨lo,un,_,_,u1,(Obj.cls_mapFields _ _).trans h2,(sv _ _).trans h3,d1,by simpa using h5,g.objs.size,_,_,by simp[h5],?_,?_,na2,u2,rfl,hts⟩
 ·obtain rfl:b=a:=by simpa using hb
  exact ⟨lo,un,_,u1⟩
 ·obtain ⟨sl',e'⟩:=sl.2.2 b o e;exact ⟨sl',other b _ (λz=>hc (by simp[z])) e'⟩
 ·exact aar lo (abu (Heap.lt_size g1))
 ·exact fresh _ (by rw[sz];exact aa4 _)
theorem eo.trans {fs c1 c2:List Addr} {h h1 h2:Heap} (x:eo fs c1 h h1) (y:eo fs c2 h1 h2):eo fs (c1++c2) h h2:=by
 refine ⟨λb o e hb hc=>y.keep b o (x.keep b o e hb λz=>hc (abv _ z)) hb λz=>hc (aau _ z),λb o e hc=>?_⟩;obtain ⟨s1,e1⟩:=x.slot b o e λz=>hc (abv _ z);obtain ⟨s2,e2⟩:=y.slot b _ e1 λz=>hc (aau _ z);exact ⟨s2,e2⟩
theorem Jv {base:Heap} {iy env:Env} {outer:List Env} {L:Addr} {Q:Unit→Shared→Prop}
  (hfr:A.frames=some (iy::outer)) (hl:s.heap.FunFrames base (iy::outer)) (hf0:iy.frame=some L) (hf:env.frame=some L) (fresh:∀b,s.heap.objs.size≤b→H b=none) (F:Fly n H s.heap a cls dx)
  (q:∀h' ch,(∀b∈ch,n≤b∧H b=none∧∃o,h'.get? b=some o)→eo (frs (iy::outer)) ch s.heap h'→uo n H h' a cls dx→Q () { s with heap:=h' }):wpAny M A (noteFrame (.ref a) env) Q E s:=by
 obtain ⟨oe,vs,h1,h2,h3,h4,h5,h6⟩:=F.ob;unfold noteFrame;simp only[hf];rcases h6 with h6 | ⟨T,oT,ts,k1,k2,k3,k4,k5,k6,k7⟩
 ·refine wpAny_bind (wpAny_field h1 h4 h6 ?_);rw[if_neg (by decide)];exact wm hfr hl hf0 hf F.lo F.un fresh h1 h2 h3 h4 h5 q
 ·refine wpAny_bind (wpAny_field h1 h4 k1 ?_);rw[if_pos (show (Value.ref T !=Value.none)=true from by simp)];refine wpAny_bind (wpAny_field k5 k6 (x:=ts[3]) (by simp[k7]) ?_);by_cases hm:(ts[3]==rawInt L)=true
  ·rw[if_pos hm];exact wpAny_pure (q s.heap [] (λb hb=>by cases hb) .refl ⟨F.lo,F.un,oe,vs,h1,h2,h3,h4,h5,T,oT,ts,k1,k2,k3,k4,k5,k6,k7⟩)
  ·rw[if_neg hm];refine wpAny_bind (wpAny_setField k5 k6 k7 ?_);have self:=Heap.get?_update_self (Obj.mapFields (·.setIfInBounds 3 Value.none)) k5 (Obj.isFreed_of_fields (Obj.data_mapFields k6 _));have other:∀b o,b≠T→s.heap.get? b=some o→(s.heap.update T (Obj.mapFields (·.setIfInBounds 3 Value.none))).get? b=some o:=λb o hb e=>(Heap.get?_update_other _ _ (Ne.symm hb)).trans e;have nT:∀b o,s.heap.get? b=some o→(∀vs,o.data≠.fields vs)→b≠T:=λb o e d z=>by
    rw[z,k5] at e;cases e
    exact d ts k6
   have tu:eo (frs (iy::outer)) [T] s.heap (s.heap.update T (Obj.mapFields (·.setIfInBounds 3 Value.none))):=⟨λb o e _ hb=>other b o (λz=>hb (by simp[z])) e,λb o e hb=>⟨o.slots,other b o (λz=>hb (by simp[z])) e⟩⟩;refine wm hfr (hl.of_keeps λb o e d=>⟨o,other b o (nT b o e d) e,rfl⟩) hf0 hf F.lo F.un (λb hb=>fresh b (by rw[show (s.heap.update T (Obj.mapFields (·.setIfInBounds 3 Value.none))).objs.size=s.heap.objs.size from Heap.size_after_update ..] at hb;exact hb)) (other a oe (Ne.symm k4) h1) h2 h3 h4 h5 λh' ch hc tn fl=>?_;refine q h' ([T]++ch) (λb hb=>?_) (tu.trans tn) fl;rcases List.mem_append.mp hb with hb | hb
   ·obtain rfl:b=T:=by simpa using hb
    refine ⟨k2,k3,?_⟩;by_cases hc2:b∈ch
    ·exact (hc b hc2).2.2
    ·obtain ⟨sl,e⟩:=tn.slot b _ self hc2;exact ⟨_,e⟩
   ·exact hc b hb
end
def Bnd (X:Cx) (pins:List (Addr×Obj)) (n:Nat):Prop:=X.s₀.heap.objs.size≤n∧X.env.locals < n∧(∀x c,X.env.cells.lookup x=some c→c < n)∧∀p∈X.pn++pins,p.1 < n
def XE (X:Cx) (E:XK):Value→Shared→Prop:=λe s'=>∃pins σ H n a cls dx,e=.ref a∧Inv X pins σ H s'∧Bnd X pins n∧Fly n H s'.heap a cls dx∧E cls dx H
noncomputable abbrev Cx.xp (X:Cx) (E:XK):Cx:=X.n0 (XE X E)
def Br (X:Cx):Prop:=∃iy outer0 L,X.stack=iy::outer0∧iy.frame=some L∧X.env.frame=some L
noncomputable def CXE (P:Program) (w:World):CXT:=λouter H s E e s'=>∃H' a cls dx,e=.ref a∧s'.os=s.os∧AllBare s'.gens∧Un (frs outer) [] H H' s.heap s'.heap∧HOk P w H' s'.heap∧Fly s.heap.objs.size H' s'.heap a cls dx∧E cls dx H'
section
variable {X:Cx} {pins:List (Addr×Obj)} {σ:St} {H:Hp} {s:Shared} {n:Nat} {a:Addr} {cls:Value} {dx:Option Addr} {M:Model} {A:Around} {E':Value→Shared→Prop} {env:Env} {E:XK}
theorem Inv.bnd (I:Inv X pins σ H s):Bnd X pins s.heap.objs.size:=
 ⟨I.sz,I.lt,λx c e=>let ⟨_,z⟩:=I.cell x c e;z.lt,λp hp=>Heap.lt_size (I.pin p hp).1⟩
theorem Inv.turn {ch:List Addr} {h':Heap} (I:Inv X pins σ H s) (B:Bnd X pins n) (hc:∀b∈ch,n≤b∧H b=none∧∃o,h'.get? b=some o) (t:eo (frs X.stack) ch s.heap h'):Inv X pins σ H { s with heap:=h' }:=by
 refine I.call (g':=s.gens) (d':=s.drawn) (t':=s.toks) (t.un λb hb=>(hc b hb).2.2) (t.hok I.hok I.zq λb hb=>(hc b hb).2.1) I.bare λb hb=>?_;have lo:=(hc b hb).1;exact ⟨.inr (aar B.1 lo),abc (aam B.2.1 lo),λx c e=>aao (aam (B.2.2.1 x c e) lo),λp hp=>aao (aam (B.2.2.2 p hp) lo)⟩
theorem Eh {Q:Unit→Shared→Prop} (I:Inv X pins σ H s) (B:Bnd X pins n) (F:Fly n H s.heap a cls dx) (S:Br X) (hA:A.frames=X.A.frames) (hE:env.frame=X.env.frame)
  (q:∀h',Inv X pins σ H { s with heap:=h' }→uo n H h' a cls dx→Q () { s with heap:=h' }):wpAny M A (noteFrame (.ref a) env) Q E' s:=by
 obtain ⟨iy,outer0,L,hs,h0,h1⟩:=S;have fr:A.frames=some (iy::outer0):=by rw[hA,I.ok.frames,hs]
 have st:=I.stack;rw[hs] at st;refine Jv fr st h0 (hE.trans h1) (λb hb=>I.hok.fresh hb) F λh' ch hc t fl=>q h' (I.turn B hc ?_) fl;rw[hs];exact t
theorem ic {fr:Option Addr} {Q:Unit→Shared→Prop} (I:Inv X pins σ H s) (B:Bnd X pins n) (F:uo n H s.heap a cls dx)
  (q:∀h',Inv X pins σ H { s with heap:=h' }→uo n H h' a cls dx→Q () { s with heap:=h' }):wpAny M A (setFlight (.ref a) fr) Q E' s:=
 wb (fs:=frs X.stack) F λh' ch hc t fl=>q h' (I.turn B hc t) fl
theorem uo.head {h:Heap} (F:uo n H h a cls dx):∃oe vs T,h.get? a=some oe∧oe.data=.fields vs∧vs[1]?=some (.ref T):=
 let ⟨oe,vs,h1,_,_,h4,_,T,_,_,k1,_⟩:=F.ob;⟨oe,vs,T,h1,h4,k1⟩
theorem ua (S:Br X):PassesOwn (model X.prog X.w) X.A X.env (XE X E):=by
 rintro e s' ⟨pins,σ,H,n,a,cls,dx,rfl,I,B,F,q⟩;refine Eh I B F S rfl rfl λh' I' F'=>?_;obtain ⟨oe,vs,T,h1,h2,h3⟩:=F'.head;show wpAny _ _ _ _ _ _
 refine wpAny_bind (wpAny_field (s:={ s' with heap:=h' }) h1 h2 h3 ?_);rw[if_neg (show ¬((Value.ref T==Value.none)=true) from by simp)];exact ic I' B F' λh'' I'' F''=>⟨pins,σ,H,n,a,cls,dx,rfl,I'',B,F''.fly,q⟩
theorem Pd {e:Value} {R:Value→Shared→Prop} (S:Br X) (hx:X.ex=[]) (z:XE X E e s) (q:∀s',CXE X.prog X.w X.outer X.H₀ X.s₀ E e s'→R e s'):wpAny M X.A (leaving X.env e) (λ_ s'=>R e s') E' s:=by
 obtain ⟨pins,σ,H,n,a,cls,dx,rfl,I,B,F,qE⟩:=z;unfold leaving;refine wpAny_bind (Eh I B F S rfl rfl λh' I' F'=>?_);refine ic (s:={ s with heap:=h' }) I' B F' λh'' I'' F''=>q _ ?_;have u:=I''.base;rw[hx] at u;exact ⟨H,a,cls,dx,rfl,I''.os,I''.bare,u,I''.hok,F''.fly.le B.1,qE⟩
theorem passX:Passes (CXE X.prog X.w) (X.xp E) E:=by
 rintro pins σ H s e s' I ⟨H',a,cls,dx,rfl,os,bare,un,hok,F,q⟩;have I0:=I.dn;exact ⟨pins,σ,H',_,a,cls,dx,rfl,I0.Kc (ch:=[]) os un hok bare (λb z=>absurd z (by simp)),I0.bnd,F,q⟩
end
section
variable {P:Program} {w:World} {K:PySem.W.Frag} {mg:Str→Option Value} {base:Heap}
theorem zd {CX:CXT} {N:List Str} {qual:Str} {scope:Scope} {f:Addr} {cd:Value} {A:Around} {outer:List Env} {s:Shared} {H:Hp} {E:XK}:Br (ma CX P w K mg base N qual scope f cd A outer s H E):=⟨_,_,_,rfl,rfl,rfl⟩
theorem Fun.okX {x qual:Str} {st:Stmt} {f:Addr} {fd:FuncData} {N ps:List Str} {k:Nat} {sp:Sp} (F:Fun K x qual st f fd) (S:av N ps (ak st)) (len:∀vs H Q E,sp vs H Q E→vs.length=ps.length)
  (hbody:∀(cdv:Value) (A:Around) (outer:List Env) (s:Shared) (H:Hp) (vs:List V) (Q:VK) (E:XK),fm k (A.deeper (envOfC qual (ak st) s.heap.objs.size f cdv))→sp vs H Q E→
   ∃t,PSs ((ma (CXE P w) P w K mg base N qual (ak st) f cdv A outer s H E).xp E) (cg st) t∧t { nx:=λ_ H'=>Q .non H',rt:=Q } (start N vs) H):l9 P w K mg base (CXE P w) (k+1) f fd ps sp:=by
 obtain ⟨oc,od,kV,doc,pm,an,cdv,ct,osl,rfl,lk,hcd⟩:=F.ex;refine fn_of lk hcd S len λA outer s H vs Q E hr hsp=>?_;obtain ⟨t,h,q⟩:=hbody cdv A outer s H vs Q E hr hsp;refine ⟨t,λpins s' σ H' D I hw=>wpAny_mono (h pins s' σ H' D (I.n0 _) hw) (λ_ _ q=>q.dn) λe s'' z=>?_,q⟩;exact Pd zd rfl z λ_ y=>y
def j3 (P:Program) (w:World) (K:PySem.W.Frag) (mg:Str→Option Value) (base:Heap) (k:Nat) (x:Str) (ps:List Str) (sp:Sp):Prop:=
 ∃(f:Addr) (fd:FuncData),l9 P w K mg base (CXE P w) k f fd ps sp∧Binds K fd ps []∧PySem.W.keepIn K (.ref f)=true∧mg x=some (.ref f)
theorem j3.up {j k:Nat} {x:Str} {ps:List Str} {sp:Sp} (h:j3 P w K mg base j x ps sp) (l:j≤k):j3 P w K mg base k x ps sp:=by
 obtain ⟨f,fd,F,r⟩:=h;exact ⟨f,fd,F.mono l,r⟩
theorem Def.hasX {k:Nat} {x:Str} {st:Stmt} {N ps:List Str} {sp:Sp} (D:Def K mg x st ps) (S:av N ps (ak st)) (len:∀vs H Q E,sp vs H Q E→vs.length=ps.length)
  (hbody:∀(f:Addr) (cdv:Value) (A:Around) (outer:List Env) (s:Shared) (H:Hp) (vs:List V) (Q:VK) (E:XK),fm k (A.deeper (envOfC x (ak st) s.heap.objs.size f cdv))→sp vs H Q E→
   ∃t,PSs ((ma (CXE P w) P w K mg base N x (ak st) f cdv A outer s H E).xp E) (cg st) t∧t { nx:=λ_ H'=>Q .non H',rt:=Q } (start N vs) H):j3 P w K mg base (k+1) x ps sp:=by
 obtain ⟨f,fd,F,b,m⟩:=D;exact ⟨f,fd,F.okX S len λcdv A outer s H vs Q E hr h=>hbody f cdv A outer s H vs Q E hr h,b,F.kp,m⟩
end
section
variable {X:Cx} {E:XK} {k:Nat} {ps:List Str} {sp:Sp} {x:Str} {p pos:Pos} {e:Expr} {es:List Expr} {t:TA}
theorem O3 (h:j3 X.prog X.w X.K X.mg X.base k x ps sp) (hr:fm k X.A) (ha:PA (X.xp E) (e::es) t) (hg:Gl X x:=by rfl) (hdb:(x==("__debug__":Str))=false:=by decide+kernel)
  (he:starEach (e::es) X.env=(false,eval e X.env)::starEach es X.env:=by rfl) (hpl:(backTo pos (starEach es X.env)).any (·.1)=false:=by rfl):
  PE (X.xp E) (.Call (.Name x p) (e::es) [] pos) (Az sp [] E t):=by
 obtain ⟨f,fd,F,b,kp,m⟩:=h;exact Af (X:=X.xp E) F hr hg m kp b .nil passX ha hdb he hpl
end
end L2
namespace PySem
open Sem (wp)
structure Xc (K:W.Frag) (C:Addr) (bm:List Value):Prop where
 lk:∃nm q N bs sn sub ab col dd k0 k1 k2 k3 k5,K.lookup C=some (excClassObj nm q C N bs bm true sn sub ab col dd k0 k1 k2 k3 k5 "ValueError.__new__")
 hv:bm.contains (.type "ValueError")=true
 hb:bm.contains (.type "BaseException")=true
 ha:bm.contains (.type "AttributeError")=false
 hn:bm.contains (.type "NameError")=false
 ho:bm.contains (.type "object")=true
 kp:W.keepIn K (.ref C)=true
 sa:∀self:Value,refuseLoop self "__setattr__" bm=pure ()
 fs:W.findIn K (.ref C) "__setattr__"=some (some (.builtin "object.__setattr__"))
 fg:W.findIn K (.ref C) "__getattribute__"=some (some (.builtin "BaseException.__getattribute__"))
 fh:W.findIn K (.ref C) "__getattr__"=some none
 fc:W.findIn K (.ref C) "__class__"=some (some (.builtin "object.__class__"))
section
variable {prog:Program} {w:World} {A:Around} {E:Value→Shared→Prop} {K:W.Frag} {C:Addr} {bm rest:List Value} {init:Value}
theorem L1 {h:Heap} {g:Array GenState} {d:Drawn} {t:Nat} {os:OsState} {R:Result→Shared→Prop} (X:K.In h) (c:Xc K C bm) (hl:rest.length≤sizeLine)
  (q:R (.ok (.ret (.ref (h.objs.size+1)))) ⟨(h.push { cls:=.type "tuple",data:=.seq rest.toArray }).push { cls:=.ref C,data:=.fields #[.ref h.objs.size,.none,.none,.none,.bool false,.none] },g,d,t,os⟩):
  codeAny (model prog w) A (.builtin "ValueError.__new__" ⟨.ref C::rest,[]⟩) R ⟨h,g,d,t,os⟩:=by
 obtain ⟨nm,qn,N,bs,sn,sub,ab,col,dd,k0,k1,k2,k3,k5,lk⟩:=c.lk;have hC:=X _ _ lk;have Fv:=PySem.F.excBase_ValueError;have hends:=Fv.ends;have z1:(Value.ref C::bm).contains (.type "ValueError")=true:=by rw[abn,c.hv,ae3]
 have z2:(Value.ref C::bm).contains (.type "AttributeError")=false:=by rw[abn,c.ha];rfl
 have z3:(Value.ref C::bm).contains (.type "NameError")=false:=by rw[abn,c.hn];rfl
 refine codeAny_builtinAt Fv.entry ?_;unfold Builtin.«BaseException.__new__»;refine wpAt_bind ?_;show wpAt _ _ _ (stack >>=_) _ _ _
 refine wpAt_bind (wpAt_stack λp below=>wpAt_of_wpAny ?_);wp_walk
 refine wpAt_of_wpAny ?_;rw[Fv.owner];repeat (first | with_reducible refine wpAny_madeHere_exc Fv.canon hC ?_ | with_reducible refine wpAny_loadPart_at hC ?_ | (with_reducible refine wpAny_isSubtype_exc hC ?_;first | rw[z1] | rw[z2] | rw[z3]) | wp_step)
 show R _ _
 rw[Heap.size_push];exact q
theorem Dw {h:Heap} {g:Array GenState} {d:Drawn} {t:Nat} {os:OsState} {Q:Fin→Shared→Prop} (X:K.In h) (c:Xc K C bm) (hi:W.findIn K (.ref C) "__init__"=some (some init))
  (hb:∀self,W.Looks (model prog w) h (bindSpecial init self) (init,[self])) (hl:rest.length≤sizeLine)
  (q:wpAny (model prog w) A (call init (.ref (h.objs.size+1)::rest)) (λr s'=>r=.none∧Q (.done (.ret (.ref (h.objs.size+1)))) s') E
   ⟨(h.push { cls:=.type "tuple",data:=.seq rest.toArray }).push { cls:=.ref C,data:=.fields #[.ref h.objs.size,.none,.none,.none,.bool false,.none] },g,d,t,os⟩):
  wpAny (model prog w) A (Builtin.«type.__call__» ⟨.ref C::rest,[]⟩) Q E ⟨h,g,d,t,os⟩:=by
 obtain ⟨nm,qn,N,bs,sn,sub,ab,col,dd,k0,k1,k2,k3,k5,lk⟩:=c.lk;have hC:=X _ _ lk;have Fv:=PySem.F.excBase_ValueError;repeat (first | with_reducible refine wpAny_loadPart_at hC ?_ | with_reducible refine wpAny_madeBy_exc hC ?_ | wp_step)
 refine codeAny_call_builtin_code (Code.quiet_builtin _ Fv.quiet) (wpAny_check_new_subU Fv c.hv .base hC ?_);refine L1 X c hl ?_;show wpAny _ _ _ _ _ _
 have kk:∀b o,h.get? b=some o→((h.push { cls:=.type "tuple",data:=.seq rest.toArray }).push { cls:=.ref C,data:=.fields #[.ref h.objs.size,.none,.none,.none,.bool false,.none] }).get? b=some o:=
  λb o e=>Heap.get?_push_of_some _ (Heap.get?_push_of_some _ e)
 have hC2:=kk _ _ hC;have he:((h.push { cls:=.type "tuple",data:=.seq rest.toArray }).push { cls:=.ref C,data:=.fields #[.ref h.objs.size,.none,.none,.none,.bool false,.none] }).get? (h.objs.size+1)=some
   { cls:=.ref C,data:=.fields #[.ref h.objs.size,.none,.none,.none,.bool false,.none] }:=by heap_get
 have z4:(Value.ref C::bm).contains (.ref C)=true:=by simp
 unfold isInstance;repeat (first | with_reducible refine wpAny_loadPart_at he ?_ | (with_reducible refine wpAny_isSubtype_exc hC2 ?_;rw[z4]) | wp_step)
 show wpAny _ _ (typeLookup (.ref C) _) _ _ _
 refine ((W.looks_findIn X hi).keeps kk).here ?_;refine wpAny_holding (wpAny_bind (((hb _).keeps kk).here ?_));refine wpAny_bind (wpAny_mono q (λr s' hr=>?_) λ_ _ z=>z);obtain ⟨rfl,hQ⟩:=hr;wp_walk
 exact hQ
theorem Lw {s:Shared} {Q:Value→Shared→Prop} (X:K.In s.heap) (c:Xc K C bm) (hi:W.findIn K (.ref C) "__init__"=some (some init)) (hb:∀self,W.Looks (model prog w) s.heap (bindSpecial init self) (init,[self]))
  (hl:rest.length≤sizeLine)
  (q:wpAny (model prog w) (A.under (.builtin "type.__call__" ⟨.ref C::rest,[]⟩)) (call init (.ref (s.heap.objs.size+1)::rest)) (λr s'=>r=.none∧Q (.ref (s.heap.objs.size+1)) s') E
   { s with heap:=(s.heap.push { cls:=.type "tuple",data:=.seq rest.toArray }).push { cls:=.ref C,data:=.fields #[.ref s.heap.objs.size,.none,.none,.none,.bool false,.none] } }):
  wpAny (model prog w) A (call (.ref C) rest) Q E s:=by
 obtain ⟨h,g,d,t,os⟩:=s;obtain ⟨nm,qn,N,bs,sn,sub,ab,col,dd,k0,k1,k2,k3,k5,lk⟩:=c.lk;have hC:=X _ _ lk;dsimp only at hC q;have g1:=tc_lookup;have g2:=tc_bind (.ref C);have g3:(⟨h,g,d,t,os⟩:Shared).TypeIs (.ref C) "type":=⟨_,hC,rfl⟩;refine wpAny_call (codeAny_of_tree ?_);show wpAny _ _ (callAny (.ref C) _) _ _ _
 repeat (any_goals (first | assumption | with_reducible refine wpAny_loadPart_at hC ?_ | wp_step))
 refine ⟨rfl,?_⟩;refine codeAny_call_builtin_at (Code.quiet_builtin _ (by decide+kernel)) entry_typeCall (wpAny_check_type_call_sub hC (Dw X c hi hb hl ?_));exact q
end
end PySem
namespace PySem
open Sem (wp)
open Builtin Builtin.ObjectAttr
section
variable {prog:Program} {w:World} {A:Around} {E:Value→Shared→Prop} {K:W.Frag} {C x:Addr} {bm rest:List Value} {h:Heap} {g:Array GenState} {d:Drawn} {t:Nat} {os:OsState} {o:Obj} {vs:Array Value}
theorem Iv {R:Result→Shared→Prop} (X:K.In h) (c:Xc K C bm) (hx:h.get? x=some o) (hc:o.cls=.ref C) {t0:Addr} (hd:o.data=.fields #[.ref t0,.none,.none,.none,.bool false,.none]) (hl:rest.length≤sizeLine)
  (q:R (.ok (.ret .none)) ⟨(h.push { cls:=.type "tuple",data:=.seq rest.toArray }).update x (Obj.mapFields (·.setIfInBounds 0 (.ref h.objs.size))),g,d,t,os⟩):
  codeAny (model prog w) A (.call (.builtin "ValueError.__init__") ⟨.ref x::rest,[]⟩) R ⟨h,g,d,t,os⟩:=by
 obtain ⟨nm,qn,N,bs,sn,sub,ab,col,dd,k0,k1,k2,k3,k5,lk⟩:=c.lk;have hC:=X _ _ lk;have Fv:=PySem.F.excBase_ValueError;have z1:(Value.ref C::bm).contains (.type "ValueError")=true:=by rw[abn,c.hv,ae3]
 have short:=Fv.noStar;refine codeAny_call_builtin Fv.init.plain Fv.initEntry ?_;simp only[checkBuiltinCall,Fv.initKind,Fv.initSplit,Fv.initRow];repeat (first | (with_reducible refine wpAny_loadPart_at hx ?_;rw[hc]) | with_reducible refine wpAny_loadPart_at hC ?_ | (with_reducible refine wpAny_isSubtype_exc hC ?_;rw[z1]) | wp_step)
 refine wpAny_onRaise ?_;rw[show ∀(a b:String) (n:Nat),Bind.check ⟨.positional,"*","ValueError",.self,[⟨"args",.varPos,false⟩]⟩ a b n (aei (λy=>y.fst) ({ pos:=Value.ref x::rest }:Args).kw)=pure () from λa b n=>check_star_args _ _ _ _ _ _];refine wpAny_pure ?_;unfold Builtin.«BaseException.__init__»;have hx2:(h.push { cls:=.type "tuple",data:=.seq rest.toArray }).get? x=some o:=Heap.get?_push_of_some _ hx;have hz:0 < (#[.ref t0,.none,.none,.none,.bool false,.none]:Array Value).size:=by show 0 < 6;decide
 have hz1:(#[.ref t0,.none,.none,.none,.bool false,.none]:Array Value)[0]?=some (.ref t0):=rfl;repeat (first | with_reducible refine wpAny_field hx2 hd hz1 ?_ | with_reducible refine wpAny_setField hx2 hd hz ?_ | wp_step)
 all_goals first | exact q | skip
theorem xtype {M:Model} (hx:h.get? x=some o) (hc:o.cls=.ref C):W.Looks M h (typeOf (.ref x)) (.ref C):=hc ▸ (W.Looks.ld hx).andThen .now
theorem xsub {M:Model} (X:K.In h) (c:Xc K C bm) (b:Value):W.Looks M h (isSubtype (.ref C) b) ((Value.ref C::bm).contains b):=by
 obtain ⟨nm,qn,N,bs,sn,sub,ab,col,dd,k0,k1,k2,k3,k5,lk⟩:=c.lk;intro A' Q' E' s' k' q';obtain ⟨h2,g2,d2,t2,o2⟩:=s';exact wpAny_isSubtype_exc (k' _ _ (X _ _ lk)) q'
theorem xraise {env:Env} {s:Shared} {m:Sem Value} {Q:Flow→Shared→Prop} (hh:A.handled=none)
  (q:wpAny (model prog w) A m (λv s₁=>∃e o vs C bm,v=.ref e∧K.In s₁.heap∧Xc K C bm∧s₁.heap.get? e=some o∧o.cls=.ref C∧o.data=.fields vs∧vs[1]?=some .none∧E (.ref e) s₁) E s):
  wpAny (model prog w) A (raiseStmt env (some m) none) Q E s:=by
 unfold raiseStmt;refine wpAny_bind (wpAny_mono q (λv s₁ h₁=>?_) λ_ _ x=>x);obtain ⟨e,o,vs,C,bm,rfl,X,c,he,hc,hd,h1,hE⟩:=h₁;obtain ⟨nm,qn,N,bs,sn,sub,ab,col,dd,k0,k1,k2,k3,k5,lk⟩:=c.lk;have hC:=X _ _ lk;have z1:(Value.ref C::bm).contains (.type "BaseException")=true:=by rw[abn,c.hb,ae3]
 obtain ⟨hp,g,d,tk,os⟩:=s₁;obtain ⟨oc,od,odt,osl⟩:=o;obtain rfl:oc=.ref C:=hc;obtain rfl:odt=.fields vs:=hd;dsimp only at X he hC hE;repeat (first | with_reducible refine wpAny_loadPart_at he ?_ | with_reducible refine wpAny_loadPart_at hC ?_ | (with_reducible refine wpAny_isSubtype_exc hC ?_;rw[z1]) | wp_step)
 rw[h1];refine wpAny_pure ?_;rw[if_neg (by decide)];exact wpAny_pure (wpAny_raiseNew_none hh hE)
theorem xmatch {s:Shared} {bC:List Value} {D:Addr} {Q:Bool→Shared→Prop} (X:K.In s.heap) (c:Xc K C bm) (cD:Xc K D bC) (hx:s.heap.get? x=some o) (hc:o.cls=.ref C) (q:Q ((Value.ref C::bm).contains (.ref D)) s):
  wpAny (model prog w) A (excMatches (.ref x) (.ref D)) Q E s:=by
 obtain ⟨nm,qn,N,bs,sn,sub,ab,col,dd,k0,k1,k2,k3,k5,lk⟩:=cD.lk;have hD:=X _ _ lk;have z1:(Value.ref D::bC).contains (.type "BaseException")=true:=by rw[abn,cD.hb,ae3]
 have f:=tc_notTuple;obtain ⟨hp,g,d,tk,os⟩:=s;dsimp only at X hx hD q;have lx:=xtype (M:=model prog w) hx hc;have ls:=xsub (M:=model prog w) X c (.ref D);unfold excMatches;repeat (first | with_reducible refine wpAny_loadPart_at hD ?_ | (with_reducible refine wpAny_isSubtype_exc hD ?_;rw[z1]) | (with_reducible refine wpAny_loadPart_at hx ?_;rw[hc]) | wp_step)
 refine ls.here ?_;cases hb:(Value.ref C::bm).contains (.ref D) with
 | true=>
  rw[hb] at q;exact wpAny_pure (wpAny_pure (wpAny_pure q))
 | false=>
  rw[hb] at q;exact wpAny_pure (wpAny_pure (wpAny_pure q))
end
end PySem
namespace L2
open PySem PySem.Spec PyProof.Rows
def ny (C:Addr) (E:XK) (t:TA):TS:=λ_ σ H=>t σ H λvs H1=>vs.length≤100∧E (.ref C) none H1
section
variable {X:Cx} {E:XK} {k:Nat} {f C:Addr} {bm:List Value} {fd:FuncData} {ps:List Str} {sp:Sp} {x:Str} {p cpos pos:Pos} {e:Expr} {es:List Expr} {t:TA}
theorem Iw (c:Xc X.K C bm) (hi:PySem.W.findIn X.K (.ref C) "__init__"=some (some (.builtin "ValueError.__init__"))) (hr:fm k X.A) (hm:X.mg x=some (.ref C)) (ha:PA (X.xp E) (e::es) t) (hg:Gl X x:=by rfl) (hdb:(x==("__debug__":Str))=false:=by decide+kernel)
  (he:starEach (e::es) X.env=(false,eval e X.env)::starEach es X.env:=by rfl) (hpl:(backTo cpos (starEach es X.env)).any (·.1)=false:=by rfl):
  PS (X.xp E) (.Raise (some (.Call (.Name x p) (e::es) [] cpos)) none pos) (ny C E t):=by
 intro pins s σ H D I h;rw[arm_exec_Raise];refine wpAny_bind (wpAny_standAt (xraise (K:=X.K) hr.hd (wpAny_bind (wpAny_mono (wpAny_Call_Name_kw (nq I hg hm ?_ hdb)) (λv s₃ h₃=>wpAny_bind (wpAny_standAt (wpAny_pure h₃))) λ_ _ x=>x))));refine PySem.W.callWith_K (h₀:=X.base) I.ok.mod.kin c.kp (thn (ha cpos pins s σ H _ I h) λus s1 ⟨vs,H1,I1,r,hl,q⟩=>⟨I1.kIn,?_⟩) he hpl;have hl2:us.length≤sizeLine:=by
  rw[sizeLine_eq,←r.length];omega
 refine Lw I1.kIn c hi (λself=>PySem.W.Looks.of_pure (PySem.F.excBase_ValueError.init.bind self)) hl2 ?_;obtain ⟨h1,g,d,tk,os⟩:=s1;have kk:∀b o,h1.get? b=some o→((h1.push { cls:=.type "tuple",data:=.seq us.toArray }).push { cls:=.ref C,data:=.fields #[.ref h1.objs.size,.none,.none,.none,.bool false,.none] }).get? b=some o:=
  λb o e=>Heap.get?_push_of_some _ (Heap.get?_push_of_some _ e)
 have sz:(h1.push { cls:=.type "tuple",data:=.seq us.toArray }).objs.size=h1.objs.size+1:=Heap.size_push ..;have g1:=Heap.get?_push_size (h1.push { cls:=.type "tuple",data:=.seq us.toArray }) (o:={ cls:=.ref C,data:=.fields #[.ref h1.objs.size,.none,.none,.none,.bool false,.none] }) rfl;rw[sz] at g1;refine wpAny_call (Iv (λb o e=>kk b o (I1.kIn b o e)) c g1 rfl rfl hl2 ⟨rfl,?_⟩);have g2:=Heap.get?_update_self (Obj.mapFields (·.setIfInBounds 0 (Value.ref ((h1.push { cls:=.type "tuple",data:=.seq us.toArray }).push { cls:=.ref C,data:=.fields #[.ref h1.objs.size,.none,.none,.none,.bool false,.none] }).objs.size)))
  (Heap.get?_push_of_some { cls:=.type "tuple",data:=.seq us.toArray } g1) rfl
 have k3:∀b o,h1.get? b=some o→((((h1.push { cls:=.type "tuple",data:=.seq us.toArray }).push { cls:=.ref C,data:=.fields #[.ref h1.objs.size,.none,.none,.none,.bool false,.none] }).push { cls:=.type "tuple",data:=.seq us.toArray }).update (h1.objs.size+1)
   (Obj.mapFields (·.setIfInBounds 0 (Value.ref ((h1.push { cls:=.type "tuple",data:=.seq us.toArray }).push { cls:=.ref C,data:=.fields #[.ref h1.objs.size,.none,.none,.none,.bool false,.none] }).objs.size)))).get? b=some o:=λb o e=>
  (Heap.get?_update_other _ _ (abc (acj (Heap.lt_size e)))).trans (Heap.get?_push_of_some _ (kk b o e))
 have I3:=I1.kept (t':=tk) k3;exact ⟨_,_,_,C,bm,rfl,I3.kIn,c,g2,rfl,rfl,rfl,pins,σ,H1,h1.objs.size,_,.ref C,none,rfl,I3.dn,I1.dn.bnd,⟨ad8 _,I1.hok.fresh (ad8 _),_,_,g2,rfl,rfl,rfl,(by show 1 < 6;decide),.inl rfl⟩,q⟩
end
def XF (X:Cx) (pins:List (Addr×Obj)) (σ:St) (E:XK):Value→Shared→Prop:=λe s'=>∃H' n a cls dx,e=.ref a∧Inv X pins σ H' s'∧Bnd X pins n∧Fly n H' s'.heap a cls dx∧E cls dx H'
abbrev TX:=Ends→XK→St→Hp→Prop
def PXS (X:Cx) (st:List Stmt) (t:TX):Prop:=
 ∀(pins:List (Addr×Obj)) (s:Shared) (σ:St) (H:Hp) (D:Ends) (E:XK),Inv X pins σ H s→t D E σ H→wpAny (model X.prog X.w) X.A (execs st X.env) (SP X pins D) (XF X pins σ E) s
noncomputable def tXSet (i:Nat) (sp:Sp) (t:TA):TX:=λD E σ H=>t σ H λvs H1=>sp vs H1 (λv H2=>D.nx (σ.set i (some v)) H2) E
section
variable {X:Cx} {k:Nat} {ps:List Str} {sp:Sp} {x:Str} {p pos epos:Pos} {e:Expr} {es:List Expr} {t:TA}
theorem Pf (h:j3 X.prog X.w X.K X.mg X.base k x ps sp) (hr:fm k X.A) (ha:PA X.nox (e::es) t) (hg:Gl X x) (hdb:(x==("__debug__":Str))=false)
  (he:starEach (e::es) X.env=(false,eval e X.env)::starEach es X.env) (hpl:(backTo pos (starEach es X.env)).any (·.1)=false)
  {pins:List (Addr×Obj)} {s:Shared} {σ:St} {H:Hp} {Q:VK} {E:XK} (I:Inv X pins σ H s) (w:t σ H λvs H1=>sp vs H1 Q E):
  wpAny (model X.prog X.w) X.A (eval (.Call (.Name x p) (e::es) [] pos) X.env) (EP X pins σ Q) (XF X pins σ E) s:=by
 obtain ⟨f,fd,F,b,kp,m⟩:=h;refine wpAny_Call_Name_kw (nq I hg m ?_ hdb);refine PySem.W.callWith_K (h₀:=X.base) I.ok.mod.kin kp (wpAny_mono (ha pos pins s σ H _ (I.n0 _) w) (λus s1 ⟨vs,H1,I1',r,q⟩=>?_) λ_ _ z=>False.elim z) he hpl;have I1:=I1'.dn;refine ⟨I1.kIn,?_⟩;have hl:us.length=ps.length:=by rw[←r.length];exact F.len _ _ _ _ q
 refine wpAny_call (codeAny_mono (F.run X.A X.stack s1 H1 ⟨us,[]⟩ us vs Q E hr I1.iy (by have z:=b s1 us I1.kIn (by rw[ab3];exact hl);rw[ab3] at z;exact z) r q) λr s' hq=>?_);cases r with
 | error e=>
  obtain ⟨H',a,cls,dx,rfl,os,bare,un,hok,F',qE⟩:=hq;exact ⟨H',_,a,cls,dx,rfl,I1.Kc (ch:=[]) os un hok bare (λb z=>absurd z (by simp)),I1.bnd,F',qE⟩
 | ok fl=>
  cases fl with
  | ret u=>exact I1.after hq
  | next=>exact False.elim hq
  | brk=>exact False.elim hq
  | cont=>exact False.elim hq
theorem Pa {i:Nat} {z:Str} {zp:Pos} (hN:X.N.Nodup) (hi:X.N[i]?=some z) (hz:Loc X.env.scope z) (h:j3 X.prog X.w X.K X.mg X.base k x ps sp) (hr:fm k X.A) (ha:PA X.nox (e::es) t) (hg:Gl X x:=by rfl) (hdb:(x==("__debug__":Str))=false:=by decide+kernel)
  (he:starEach (e::es) X.env=(false,eval e X.env)::starEach es X.env:=by rfl) (hpl:(backTo pos (starEach es X.env)).any (·.1)=false:=by rfl) (hs:swapsWith (.Call (.Name x p) (e::es) [] pos) (some (.Name z zp)) epos.line X.env=pure false:=by rfl)
  (hf:X.fn z=true∨X.env.scope.names.lookup z=some .local:=by first | exact .inl rfl | exact .inr rfl | assumption):
  PXS X [.Assign [.Name z zp] (.Call (.Name x p) (e::es) [] pos) epos] (tXSet i sp t):=by
 intro pins s σ H D E I w;refine wpAny_execs_cons (wpAny_Assign_Name (thn (Pf h hr ha hg hdb he hpl I w) λv s1 ⟨y,H1,I1,r1,q1⟩=>?_) hs);exact ur I1 hN hi hz r1 (λs2 I2=>wpAny_execs_nil ⟨_,H1,I2,q1⟩) hf
end
section
variable {X:Cx} {pins:List (Addr×Obj)} {σ:St} {H:Hp} {s:Shared}
noncomputable abbrev Cx.inX (X:Cx) (a:Addr):Cx:={ X with A:=X.A.mark (some (.ref a)),calm:=false }
theorem Cx.Ok.inX {a:Addr} (ok:X.Ok):(X.inX a).Ok:=
 ⟨ok.mod,ok.kind,ok.glob,ok.blt,ok.above,ok.inj,ok.has,ok.cab,λz=>aex z,ok.frames,ok.stk,ok.exf,ok.bs,ok.bsz,ok.noex,ok.exfs,ok.o8,ok.frf⟩
theorem Inv.inX {a:Addr} (I:Inv X pins σ H s):Inv (X.inX a) pins σ H s:=⟨I.ok.inX,I.os,I.bare,I.base,I.loc,I.cell,I.free,I.freeC,I.pin,I.hok,I.len⟩
theorem Inv.outX {a:Addr} (ok:X.Ok) (I:Inv (X.inX a) pins σ H s):Inv X pins σ H s:=⟨ok,I.os,I.bare,I.base,I.loc,I.cell,I.free,I.freeC,I.pin,I.hok,I.len⟩
end
section
variable {X:Cx} {E:XK} {k:Nat} {C:Addr} {bm:List Value} {ps:List Str} {sp:Sp} {x:Str} {p cpos pos:Pos} {e:Expr} {es:List Expr} {t:TA}
theorem Qi (h:j3 X.prog X.w X.K X.mg X.base k x ps sp) (hr:fm k X.A) (ha:PA X (e::es) t) (hg:Gl X x:=by rfl) (hdb:(x==("__debug__":Str))=false:=by decide+kernel)
  (he:starEach (e::es) X.env=(false,eval e X.env)::starEach es X.env:=by rfl) (hpl:(backTo pos (starEach es X.env)).any (·.1)=false:=by rfl):
  PE X (.Call (.Name x p) (e::es) [] pos) (Az sp [] E0 t):=by
 obtain ⟨f,fd,F,b,kp,m⟩:=h;refine Af F hr hg m kp b .nil ?_ ha hdb he hpl;rintro pins σ H s e s' I ⟨H',a,cls,dx,rfl,os,bare,un,hok,F,q⟩;exact q.elim
end
end L2
namespace Pc
open PySem PySem.Spec L2 PyProof.Rows
structure Cl where
 cov:Addr
 noTerm:Addr
 noBox:Addr
 badCover:Addr
 noCover:Addr
 badRow:Addr
 noValue:Addr
 twice:Addr
 noName:Addr
 badShape:Addr
 badDeed:Addr
 unsound:Addr
noncomputable abbrev vbm:List Value:=[.type "ValueError",.type "Exception",.type "BaseException",.type "object"]
noncomputable abbrev cbm (c:Cl):List Value:=.ref c.cov::vbm
theorem Xc.mk' {K:PySem.W.Frag} {C:Addr} {bm:List Value} {nm q:Str} {N:Addr} {bs:List Value} {sn:List Str} {sub:List Value} {ab:Bool} {col:Option Bool} {dd:Option Addr} {k0 k1 k2 k3 k5:Option Value}
  (lk:K.lookup C=some (excClassObj nm q C N bs bm true sn sub ab col dd k0 k1 k2 k3 k5 "ValueError.__new__")) (kp:PySem.W.keepIn K (.ref C)=true) (fs:PySem.W.findIn K (.ref C) "__setattr__"=some (some (.builtin "object.__setattr__")))
  (fg:PySem.W.findIn K (.ref C) "__getattribute__"=some (some (.builtin "BaseException.__getattribute__"))) (fh:PySem.W.findIn K (.ref C) "__getattr__"=some none) (fc:PySem.W.findIn K (.ref C) "__class__"=some (some (.builtin "object.__class__")))
  (hb:bm=vbm∨∃D,bm=.ref D::vbm):Xc K C bm where
 lk:=⟨_,_,_,_,_,_,_,_,_,_,_,_,_,_,lk⟩
 hv:=by rcases hb with rfl | ⟨D,rfl⟩ <;> rfl
 hb:=by rcases hb with rfl | ⟨D,rfl⟩ <;> rfl
 ha:=by rcases hb with rfl | ⟨D,rfl⟩ <;> rfl
 hn:=by rcases hb with rfl | ⟨D,rfl⟩ <;> rfl
 ho:=by rcases hb with rfl | ⟨D,rfl⟩ <;> rfl
 kp:=kp
 sa:=λself=>by
  rcases hb with rfl | ⟨D,rfl⟩
  ·exact PySem.F.store_ValueError.passes self
  ·rw[refuseLoop_ref];exact PySem.F.store_ValueError.passes self
 fs:=fs
 fg:=fg
 fh:=fh
 fc:=fc
theorem isC {c:Cl} {C D:Addr}:(Value.ref C::cbm c).contains (.ref D)=(decide (D=C)||decide (D=c.cov)):=by
 rw[abn,abn];have e1:(Value.ref D==Value.ref C)=decide (D=C):=by
  by_cases h:D=C
  ·rw[h,decide_eq_true rfl];simp
  ·rw[decide_eq_false h];exact Bool.eq_false_iff.mpr λz=>h (Value.ref.inj (beq_iff_eq.mp z))
 have e2:(Value.ref D==Value.ref c.cov)=decide (D=c.cov):=by
  by_cases h:D=c.cov
  ·rw[h,decide_eq_true rfl];simp
  ·rw[decide_eq_false h];exact Bool.eq_false_iff.mpr λz=>h (Value.ref.inj (beq_iff_eq.mp z))
 have e3:(vbm.contains (Value.ref D))=false:=rfl;rw[e1,e2,e3,ads]
end Pc
namespace Pc
open PySem PySem.Spec L2 PyProof.Rows Fm
noncomputable def prc (g:Ky→Option Int) (k:Ky):Nat:=((g k).getD 0).toNat
noncomputable def prs (g:Ky→Option Int) (ks:List Ky):Nat:=(ks.map (prc g)).sum
theorem i9 (g:Ky→Option Int) (k:Ky) (ks:List Ky):prs g (k::ks)=prc g k+prs g ks:=by
 unfold prs;rw[aaw,aco]
theorem vc (g:Ky→Option Int) (a b:List Ky):prs g (a++b)=prs g a+prs g b:=by
 unfold prs;rw[aa6,adj]
def Prd (g:Ky→Option Int) (ks:List Ky):Prop:=∀k∈ks,∃v,g k=some v∧1≤v
theorem Au {g:Ky→Option Int} (hpos:∀k v,g k=some v→1≤v):∀{hs:List Ky} {c v:Int},cost g c hs=some v→Prd g hs∧v=c+(prs g hs:Int)
 | [],c,v,h=>by
  have h:some c=some v:=h;have:=aa3 h;exact ⟨λk hk=>(aa8 hk).elim,by show v=c+((0:Nat):Int);omega⟩
 | k::hs,c,v,h=>by
  cases e:g k with
  | none=>rw[iz e] at h;cases h
  | some x=>
   rw[dz e] at h;obtain ⟨h1,h2⟩:=Au hpos h;have hx:=hpos k x e;refine ⟨λk' hk'=>?_,?_⟩
   ·rcases List.mem_cons.mp hk' with rfl | hk'
    ·exact ⟨x,e,hx⟩
    ·exact h1 k' hk'
   ·rw[i9,h2];have:prc g k=x.toNat:=by unfold prc;rw[e];rfl
    rw[this];omega
noncomputable def pick (kinds:List Str) (rs:List Rl) (ws:List V) (g:Ky→Option Int) (k:Ky):Str:=(namesW (bq kinds rs ws k.1) g k.2 ((g k).getD 0)).headD ""
noncomputable def yy (kinds:List Str) (rs:List Rl) (ws:List V) (nm:Str) (p:Nat):List Ky:=match rs.find? (λr=>decide (r.name=nm)) with
 | some r=>match bo kinds ws r.shape p ⟨[],[],[]⟩ with
  | some u=>u.hs.zip (aq kinds r.shape)
  | none=>[]
 | none=>[]
theorem find_name {rs:List Rl} (nd:(rs.map (·.name)).Nodup):∀{i:Nat} {r:Rl},rs[i]?=some r→rs.find? (λx=>decide (x.name=r.name))=some r:=by
 induction rs with
 | nil=>intro i r h;simp at h
 | cons x rs ih=>
  intro i r h;have nd:(x.name::rs.map (·.name)).Nodup:=nd;obtain ⟨n1,n2⟩:=List.nodup_cons.mp nd;cases i with
  | zero=>
   cases h
   rw[List.find?_cons_of_pos (by simp)]
  | succ i=>
   have h:rs[i]?=some r:=h;have ne:¬x.name=r.name:=λe=>n1 (e ▸ List.mem_map.mpr ⟨r,aaf h,rfl⟩);rw[List.find?_cons_of_neg (by simpa using ne)];exact ih n2 h
theorem rj {kinds:List Str} {rs:List Rl} {ws:List V} {g:Ky→Option Int} (bk:Bk kinds rs) (T:Tbl (ee kinds rs ws) g) {k:Ky} {v:Int} (h:g k=some v):
  ∃(i:Nat) (r:Rl) (u:Und),rs[i]?=some r∧r.name=pick kinds rs ws g k∧r.kind=k.2∧bo kinds ws r.shape k.1 ⟨[],[],[]⟩=some u∧yy kinds rs ws (pick kinds rs ws g k) k.1=u.hs.zip (aq kinds r.shape)∧Prd g (u.hs.zip (aq kinds r.shape))∧prs g (u.hs.zip (aq kinds r.shape))+1≤prc g k∧k.1 < ws.length:=by
 obtain ⟨ro,hro,h1,h2,h3⟩:=mj bk T h;obtain ⟨nm,hn⟩:=je T hro;obtain ⟨m1,m2,m3⟩:=j5 hro;have ek:k=(ro.place,ro.kind):=by rw[h1,h2]
 have ep:pick kinds rs ws g k=nm:=by
  unfold pick;rw[acz,ek];dsimp only;rw[m2];show (namesW (bq kinds rs ws ro.place) g ro.kind ro.price).head?.getD ""=nm
  rw[←m3,hn];rfl
 obtain ⟨i,r,u,r1,r2,r3,r4,r5⟩:=vt bk hro (adv hn);obtain ⟨c1,c2⟩:=Au T.pos r5;have pr:=bk.pr r (aaf r1);have r4':bo kinds ws r.shape k.1 ⟨[],[],[]⟩=some u:=by rw[←h1];exact r4
 refine ⟨i,r,u,r1,by rw[ep];exact r2,by rw[r3,h2],r4',?_,c1,?_,by rw[←h1];exact m1⟩
 ·rw[ep,←r2];unfold yy;rw[find_name bk.nd r1];dsimp only;rw[r4']
 ·have:prc g k=ro.price.toNat:=by unfold prc;rw[h,h3];rfl
  rw[this];omega
noncomputable def ke (kinds:List Str) (rs:List Rl) (ws:List V) (g:Ky→Option Int):Nat→List Ky→List Str
 | 0,_=>[]
 | _+1,[]=>[]
 | n+1,k::w=>pick kinds rs ws g k::ke kinds rs ws g n (yy kinds rs ws (pick kinds rs ws g k) k.1++w)
noncomputable def cov (kinds:List Str) (rs:List Rl) (ws:List V) (g:Ky→Option Int) (st:List Ky):List Str:=ke kinds rs ws g (prs g st) st
section
variable {kinds:List Str} {rs:List Rl} {ws:List V} {g:Ky→Option Int}
theorem Prd.step (bk:Bk kinds rs) (T:Tbl (ee kinds rs ws) g) {k:Ky} {w:List Ky} (h:Prd g (k::w)):Prd g (yy kinds rs ws (pick kinds rs ws g k) k.1++w)∧prs g (yy kinds rs ws (pick kinds rs ws g k) k.1++w)+1≤prs g (k::w):=by
 obtain ⟨v,hv,_⟩:=h k aa9;obtain ⟨i,r,u,_,_,_,_,e,c1,c2,_⟩:=rj bk T hv;rw[e];refine ⟨λk' hk'=>?_,?_⟩
 ·rcases List.mem_append.mp hk' with m | m
  ·exact c1 k' m
  ·exact h k' (aab _ m)
 ·rw[vc,i9];omega
theorem qo (bk:Bk kinds rs) (T:Tbl (ee kinds rs ws) g):∀(n m:Nat) (st:List Ky),Prd g st→prs g st≤n→prs g st≤m→ke kinds rs ws g n st=ke kinds rs ws g m st
 | 0,0,_,_,_,_=>rfl
 | 0,_+1,[],_,_,_=>rfl
 | _+1,0,[],_,_,_=>rfl
 | _+1,_+1,[],_,_,_=>rfl
 | 0,_,k::w,h,h1,_=>by
  have:=(h.step bk T).2;omega
 | _+1,0,k::w,h,_,h2=>by
  have:=(h.step bk T).2;omega
 | n+1,m+1,k::w,h,h1,h2=>by
  obtain ⟨a,b⟩:=h.step bk T;show _::_=_::_
  rw[qo bk T n m _ a (by omega) (by omega)]
theorem Qy:cov kinds rs ws g []=[]:=by
 unfold cov;cases prs g ([]:List Ky) <;> rfl
theorem K1 (bk:Bk kinds rs) (T:Tbl (ee kinds rs ws) g) {k:Ky} {w:List Ky} (h:Prd g (k::w)):cov kinds rs ws g (k::w)=pick kinds rs ws g k::cov kinds rs ws g (yy kinds rs ws (pick kinds rs ws g k) k.1++w):=by
 obtain ⟨a,b⟩:=h.step bk T;unfold cov;obtain ⟨n,hn⟩:∃n,prs g (k::w)=n+1:=⟨prs g (k::w) - 1,by omega⟩;rw[hn];show _::_=_
 rw[qo bk T n _ _ a (by omega) (aa4 _)]
end
noncomputable def gy (r:Rw):List Key×V:=(kyK (j8 r),.str (r.names.headD ""))
theorem yg {kinds:List Str} {rs:List Rl} {ws:List V} {g:Ky→Option Int} (bk:Bk kinds rs):(((rowsOf kinds rs ws g).map gy).map (·.1)).Nodup:=by
 have nd0:=(m8 bk.kn rs ws g ws.length).1;rw[ac3];have e:((λp:List Key×V=>p.1) ∘ gy)=kyK ∘ j8:=rfl;rw[e,←ac3];exact oy (λa b e=>Ad e) nd0
theorem Df {kinds:List Str} {rs:List Rl} {ws:List V} {g:Ky→Option Int} (bk:Bk kinds rs) {i:Nat} {r:Rw} (h:(rowsOf kinds rs ws g)[i]?=some r):cu (((rowsOf kinds rs ws g).take i).map gy) (kyK (j8 r))=none:=by
 cases e:cu (((rowsOf kinds rs ws g).take i).map gy) (kyK (j8 r)) with
 | none=>rfl
 | some v=>
  have nd:=yg (ws:=ws) (g:=g) bk;have hm:=Fh e;have e2:((rowsOf kinds rs ws g).map gy).map (·.1)=(((rowsOf kinds rs ws g).take (i+1)).map gy).map (·.1)++(((rowsOf kinds rs ws g).drop (i+1)).map gy).map (·.1):=by
   rw[←aa6,←aa6,ac5]
  rw[e2,ab4,h,aa6,aa6] at nd;have nd:=(List.nodup_append.mp nd).1;exact absurd rfl ((List.nodup_append.mp nd).2.2 _ hm _ (by simp[gy]))
theorem Qo {kinds:List Str} {rs:List Rl} {ws:List V} {g:Ky→Option Int} (bk:Bk kinds rs) (T:Tbl (ee kinds rs ws) g) (k:Ky):cu ((rowsOf kinds rs ws g).map gy) (kyK k)=(g k).map λ_=>V.str (pick kinds rs ws g k):=by
 have nd:=yg (ws:=ws) (g:=g) bk;cases e:g k with
 | some v=>
  obtain ⟨r,hr,h1,h2,h3⟩:=mj bk T e;obtain ⟨m1,m2,m3⟩:=j5 hr;have ek:k=(r.place,r.kind):=by rw[h1,h2]
  refine Fy nd (List.mem_map.mpr ⟨r,hr,?_⟩);have ep:pick kinds rs ws g k=r.names.headD "":=by
   unfold pick;rw[ek];dsimp only;rw[m2];show (namesW (bq kinds rs ws r.place) g r.kind r.price).headD ""=_
   rw[←m3]
  rw[ep,ek];rfl
 | none=>
  cases e2:cu ((rowsOf kinds rs ws g).map gy) (kyK k) with
  | none=>rfl
  | some v=>
   obtain ⟨p,hp,ep⟩:=List.mem_map.mp (Fh e2);obtain ⟨r,hr,rfl⟩:=List.mem_map.mp hp;have hk:j8 r=k:=Ad ep;have:=(j5 hr).2.1;rw[show (r.place,r.kind)=k from hk,e] at this;cases this
def l8 (H:Hp) (d:Addr) (kinds:List Str) (rs:List Rl) (ws:List V) (g:Ky→Option Int):Prop:=∃kvs:List (List Key×V),H d=some (.dT kvs)∧∀k,cu kvs (kyK k)=(g k).map λ_=>V.str (pick kinds rs ws g k)
theorem l8.same {H H':Hp} {d:Addr} {kinds:List Str} {rs:List Rl} {ws:List V} {g:Ky→Option Int} (h:l8 H d kinds rs ws g) (s:ah H H'):l8 H' d kinds rs ws g:=by
 obtain ⟨kvs,h1,h2⟩:=h;exact ⟨kvs,s _ _ h1,h2⟩
theorem l8.get {H:Hp} {d b:Addr} {kinds:List Str} {rs:List Rl} {ws:List V} {g:Ky→Option Int} (h:l8 H d kinds rs ws g) {k:Ky} (hb:H b=some (kyT k)):jv H d (.ref b) ((g k).map λ_=>V.str (pick kinds rs ws g k)):=by
 obtain ⟨kvs,h1,h2⟩:=h;rw[←h2 k];exact jv.t h1 hb
def jl (H:Hp) (t:Addr) (r:Rl) (u:Und):Prop:=∃ra ut:Addr,H t=some (.tup [.ref ra,.ref ut])∧gj H ra r∧qj H ut u
def KsAt (H:Hp) (l:Addr) (ks:List Ky):Prop:=∃as:List Addr,H l=some (.lst (as.map V.ref))∧as.length=ks.length∧∀(j:Nat) (k:Ky),ks[j]?=some k→∃a,as[j]?=some a∧H a=some (kyT k)
def Ah:Sp:=λvs H Q _=>∃(b t:Addr) (kinds:List Str) (rs:List Rl) (r:Rl) (u:Und),vs=[.ref b,.ref t]∧bh H b kinds rs∧Bk kinds rs∧r∈rs∧jl H t r u∧u.hs.length=(aq kinds r.shape).length∧∀(l:Addr) (H':Hp),ah H H'→H l=none→KsAt H' l (u.hs.zip (aq kinds r.shape)).reverse→Q (.ref l) H'
def za:Sp:=λvs H Q _=>∃(b wt:Addr) (kinds:List Str) (rs:List Rl) (ws:List V),vs=[.ref b,.ref wt]∧bh H b kinds rs∧H wt=some (.tup ws)∧Bk kinds rs∧Tw ws∧∀(d:Addr) (H':Hp) (g:Ky→Option Int),ah H H'→H d=none→Tbl (ee kinds rs ws) g→l8 H' d kinds rs ws g→Q (.ref d) H'
theorem O2 {b wt:Addr} {kinds:List Str} {rs:List Rl} {ws:List V} {H:Hp} {Q:VK} {E:XK} (p0:bh H b kinds rs) (p1:H wt=some (.tup ws)) (p2:Bk kinds rs) (p3:Tw ws) (p4:∀(d:Addr) (H':Hp) (g:Ky→Option Int),ah H H'→H d=none→Tbl (ee kinds rs ws) g→l8 H' d kinds rs ws g→Q (.ref d) H'):za [.ref b,.ref wt] H Q E:=⟨b,wt,kinds,rs,ws,rfl,p0,p1,p2,p3,p4⟩
theorem Kw {b t:Addr} {kinds:List Str} {rs:List Rl} {r:Rl} {u:Und} {H:Hp} {Q:VK} {E:XK} (p0:bh H b kinds rs) (p1:Bk kinds rs) (p2:r∈rs) (p3:jl H t r u) (p4:u.hs.length=(aq kinds r.shape).length) (p5:∀(l:Addr) (H':Hp),ah H H'→H l=none→KsAt H' l (u.hs.zip (aq kinds r.shape)).reverse→Q (.ref l) H'):Ah [.ref b,.ref t] H Q E:=⟨b,t,kinds,rs,r,u,rfl,p0,p1,p2,p3,p4,p5⟩
end Pc
namespace L2.Lrv
open PySem PySem.Spec PyProof.Rows PySem.W
theorem Es:typeLookup (.type "list_reverseiterator") "__len__"=pure none:=by rw[typeLookup_type,builtinLookup_eq_fast];kernel_rfl
theorem hint:typeLookup (.type "list_reverseiterator") "__length_hint__"=pure (some (.builtin "list_reverseiterator.__length_hint__")):=by rw[typeLookup_type,builtinLookup_eq_fast];kernel_rfl
section
variable {prog:Program} {w:World} {A:Around} {E:Value→Shared→Prop} {s:Shared} {r:Addr}
theorem Jq {Q:Bool→Shared→Prop} (hT:s.TypeIs (.ref r) "list_reverseiterator") (h:Q false s):wpAny (model prog w) A (Builtin.List.listLengthHint (.ref r)) Q E s:=by
 unfold Builtin.List.listLengthHint;refine wpAny_bind (wpAny_specialOf hT Es ?_);show wpAny _ A (specialOf (Value.ref r) (Str.ofString "__length_hint__") >>=_) _ _ _
 refine wpAny_bind (wpAny_specialOf hT hint ?_);generalize hid:("list_reverseiterator.__length_hint__":String)=id0;wp_delta
 rw[show splitId id0=some ("list_reverseiterator","__length_hint__") from by subst hid;decide+kernel];subst hid;refine wpAny_bind (wpAny_isInstance (T:="list_reverseiterator") (b:=true) hT (by rw[isSubtype_type];kernel_rfl) ?_);refine wpAny_ite_split (λhab=>absurd hab (by decide)) (λ_=>?_);refine wpAny_ite_split (λ_=>?_) (λhab=>absurd (by decide+kernel) hab);refine wpAny_ite_split (λhab=>absurd hab (by decide+kernel)) (λ_=>?_);exact wpAny_pure h
theorem Dg {R:Result→Shared→Prop} {I l:Addr} {items:Array Value} (hh:A.handled=none) (hI:s.heap.IsRevIter I l ((items.size:Int) - 1)) (hl:s.heap.IsList l items) (hne:l≠I) (hn:items.size≤sizeLine) (S:Addr) (hSI:S≠I) (hSl:S≠l) (res:Value) (c₀:Nat) (hS:s.heap.get? S=some { cls:=.type "list",data:=.seq #[] c₀ })
  (hR:∀h' tk acc' c',(∀b o,b≠S→b≠I→s.heap.get? b=some o→h'.get? b=some o)→h'.get? S=some { cls:=.type "list",dict:=none,data:=.seq acc' c',slots:=#[] }→ItemsOf (λi v=>items[items.size - 1 - i]?=some v) acc' items.size→R (.ok (.ret res)) { s with heap:=h',toks:=tk }):
  wpAny (model prog w) A.in1 (Builtin.List.listExtendWith (.ref S) (.ref I) res)
   (λfin s'=>match fin with | .done f=>R (.ok f) s' | .again c'=>c'.quiet=true∧codeAny (model prog w) A c' R s') (λe s'=>R (.error e) s') s:=by
 have W:=Walks.listRev (prog:=prog) (w:=w) (A:=A.in1) hh I l hne items;have hSf:S∉[I,l]:=by simp only[aal,aa8,or_false,not_or];exact ⟨hSI,hSl⟩
 have key:∀(h:Heap) (c₁ tk:Nat),(0≤items.size∧h.IsRevIter I l ((items.size:Int) - 1 - ((0:Nat):Int))∧h.IsList l items)→(∀b o,b≠S→s.heap.get? b=some o→h.get? b=some o)→
   h.get? S=some { cls:=.type "list",data:=.seq #[] c₁ }→codeAny (model prog w) A (.builtin "list.extend.loop" ⟨[.ref S,.ref I,res],[]⟩) R { s with heap:=h,toks:=tk }:=by
  intro h c₁ tk hst hk hS₁;refine codeAny_extend_loopS W.toS hn S hSf res items.size 0 _ #[] c₁ rfl (aa7 _) hst hS₁ (ItemsOf.nil _) λs' acc' c' hm hS' hacc=>?_;rw[Moved.eq_with hm];refine hR s'.heap s'.toks acc' c' (λb o hb hbI e=>hm.heap b o (λhmem=>?_) (hk b o hb e)) hS' hacc;rcases List.mem_cons.mp hmem with e' | hmem
  ·exact hb e'
  ·exact hbI (List.mem_singleton.mp hmem)
 have hT:=hI.typeIs;unfold Builtin.List.listExtendWith;refine wpAny_bind (wpAny_typeOf (T:="list_reverseiterator") hT ?_);have h1:Builtin.List.listSameRef (.ref S) (.ref I)=false:=by simp[Builtin.List.listSameRef,hSI]
 have h2:(Value.type "list_reverseiterator"==Value.type "list")=false:=by decide
 have h3:(Value.type "list_reverseiterator"==Value.type "tuple")=false:=by decide
 simp only[h1,h2,h3,ads,ab6,if_false];refine wpAny_bind (wpAny_pyIter_revIter hI ?_);refine wpAny_bind (wpAny_holding (Jq hT ?_));refine wpAny_ite_split (λhab=>absurd hab (by decide)) (λ_=>wpAny_pure ⟨plainId_quiet PySem.F.plain_extend_loop _,key _ c₀ _ ⟨aa7 _,by rw[show (items.size:Int) - 1 - ((0:Nat):Int)=(items.size:Int) - 1 by omega];exact hI,hl⟩ (λb o _ e=>e) hS⟩)
theorem Mt {Q:Value→Shared→Prop} {I l:Addr} {items:Array Value} (hh:A.handled=none) (hI:s.heap.IsRevIter I l ((items.size:Int) - 1)) (hl:s.heap.IsList l items) (hne:l≠I) (hlI:I < s.heap.objs.size) (hll:l < s.heap.objs.size) (hn:items.size≤sizeLine)
  (hQ:∀h' tk acc c,(∀b o,b≠I→s.heap.get? b=some o→h'.get? b=some o)→h'.get? s.heap.objs.size=some { cls:=.type "list",dict:=none,data:=.seq acc c,slots:=#[] }→ItemsOf (λi v=>items[items.size - 1 - i]?=some v) acc items.size→Q (.ref s.heap.objs.size) { s with heap:=h',toks:=tk }):
  wpAny (model prog w) A (call (.type "list") [.ref I]) Q E s:=by
 refine callType_codes (Q₁:=λobj s₁=>obj=.ref s.heap.objs.size∧s₁={ s with heap:=s.heap.push { cls:=.type "list",data:=.seq #[] } }) PySem.F.called_list (PySem.F.typeCall_list_1 _) PySem.F.entry_list_init
  (code_list_new _ ⟨rfl,rfl⟩) λobj s₁ h₁=>?_
 obtain ⟨rfl,rfl⟩:=h₁;have hS:(s.heap.push { cls:=.type "list",data:=.seq #[] }).get? s.heap.objs.size=some { cls:=.type "list",data:=.seq #[] }:=Heap.get?_push_size _ rfl;refine ⟨⟨_,hS,rfl⟩,PySem.F.args_list_init_2 _ _,?_⟩;show wpAny _ _ (do let old ←Builtin.List.listItems (.ref s.heap.objs.size);Builtin.List.listUpdate (.ref s.heap.objs.size) (λ_=>#[]);letGo old.toList.reverse;Builtin.List.listExtendWith (.ref s.heap.objs.size) (.ref I) .none) _ _ _
 refine wpAny_bind ?_;unfold Builtin.List.listItems;refine wpAny_bind (wpAny_seqItems hS rfl (wpAny_pure ?_));show wpAny _ _ (updateSeq s.heap.objs.size (λ_=>#[]) >>=λ_=>letGo (#[]:Array Value).toList.reverse >>=λ_=>Builtin.List.listExtendWith (.ref s.heap.objs.size) (.ref I) .none) _ _ _
 refine wpAny_bind (wpAny_updateSeq hS rfl ?_);have hS₂:=Heap.get?_update_self (Obj.mapSeq (λ_=>(#[]:Array Value))) hS rfl;have oth:∀b o,b≠s.heap.objs.size→(s.heap.push { cls:=.type "list",data:=.seq #[] }).get? b=some o→((s.heap.push { cls:=.type "list",data:=.seq #[] }).update s.heap.objs.size (Obj.mapSeq (λ_=>(#[]:Array Value)))).get? b=some o:=λb o hb e=>(Heap.get?_update_other _ _ (Ne.symm hb)).trans e;refine wpAny_bind (wpAny_letGo ?_);have up:∀b o,b < s.heap.objs.size→s.heap.get? b=some o→((s.heap.push { cls:=.type "list",data:=.seq #[] }).update s.heap.objs.size (Obj.mapSeq (λ_=>(#[]:Array Value)))).get? b=some o:=λb o hb e=>oth b o (aao hb) (Heap.get?_push_of_some _ e);refine Dg (A:=A.in1) hh (hI.at λo e=>up I o hlI e) (hl.at λo e=>up l o hll e) hne hn s.heap.objs.size (abc hlI) (abc hll) .none _ hS₂ λh' tk acc c hk hS' hacc=>?_;exact ⟨rfl,hQ h' tk acc c (λb o hbI e=>hk b o (aao (Heap.lt_size e)) hbI (up b o (Heap.lt_size e) e)) hS' hacc⟩
end
end L2.Lrv
namespace L2
open PySem PySem.Spec PyProof.Rows
def tLR (K:PySem.W.Frag) (ta:TA):TE:=λσ H Q=>ta σ H λvs H1=>∃(l:Addr) (xs:List V),vs=[.ref l]∧SqL K H1 l xs∧∀p,H1 p=none→Q (.ref p) (upd H1 p (.lst xs.reverse))
section
variable {X:Cx}
theorem Ec {a:Expr} {ta:TA} {p p2 pos pos2:Pos} (hc:X.calm=true) (hg:Gl X "list") (hm:X.mg "list"=none) (hg2:Gl X "reversed") (hm2:X.mg "reversed"=none) (ha:PA X [a] ta)
  (hs:starEach [.Call (.Name "reversed" p2) [a] [] pos2] X.env=[(false,eval (.Call (.Name "reversed" p2) [a] [] pos2) X.env)]:=by rfl) (hs2:starEach [a] X.env=[(false,eval a X.env)]:=by rfl):
  PE X (.Call (.Name "list" p) [.Call (.Name "reversed" p2) [a] [] pos2] [] pos) (tLR X.K ta):=by
 intro pins s σ H Q I h;refine wpAny_Call_Name_kw (gz I hg hm Kd ?_);refine PyProof.Rows.callWith_type1 ?_ hs rfl;rw[hs];show wpAny _ _ (spliced ((false,eval _ X.env)::backTo pos [])) _ _ s
 refine Calls.spliced_cons ?_;refine wpAny_Call_Name_kw (gz I hg2 hm2 uj ?_);refine PyProof.Rows.callWith_type1 (thn (ha pos2 pins s σ H _ I h) λus s1 ⟨vs,H1,I1,r1,q1⟩=>?_) hs2 rfl;obtain ⟨l,xs,e,hq,q⟩:=q1;subst e;obtain ⟨u1,rfl,ru1⟩:=vals1 r1;cases ru1
 obtain ⟨its,rv,pl,hz⟩:=I1.list hq;have hlen:=rv.length;refine call_reversed_list pl.isList (Calls.spliced_nil ?_);have lt:l < s1.heap.objs.size:=by
  obtain ⟨o,ho,_⟩:=pl.isList;exact Heap.lt_size ho
 have hsz:(s1.heap.push (revObj l ((its.toArray.size:Int) - 1))).objs.size=s1.heap.objs.size+1:=Heap.size_push _ _;refine Lrv.Mt (s:={ s1 with heap:=s1.heap.push (revObj l ((its.toArray.size:Int) - 1)) }) (I:=s1.heap.objs.size) (l:=l) (items:=its.toArray) (I1.ok.hd hc) ⟨_,Heap.get?_push_size _ rfl,rfl,rfl⟩ (pl.isList.at λo e=>Heap.get?_push_of_some _ e) (aao lt) (by rw[hsz];exact af1 _) (by rw[hsz];exact acj lt) (by rw[aa5,←hlen];exact hz) λh' tk acc c kp hL hacc=>?_;have k2:∀b o,s1.heap.get? b=some o→h'.get? b=some o:=λb o e=>kp b o (aao (Heap.lt_size e)) (Heap.get?_push_of_some _ e);have ea:acc.toList=its.reverse:=by
  apply ad6
  intro j;have h1:acc.size=its.length:=by
   have h1:acc.size=its.toArray.size:=hacc.1;rw[h1,aa5]
  by_cases hj:j < its.length
  ·have hj2:j < acc.size:=by omega
   have g:its.toArray[its.toArray.size - 1 - j]?=some acc[j]:=hacc.2 j _ (abk hj2);rw[aef,aa5] at g;rw[adb hj,g,ada,abk hj2]
  ·rw[ab9 (by rw[ac0];omega),ab9 (by rw[aaz];omega)]
 refine ⟨.ref _,_,I1.laid (t':=tk) k2 (show s1.heap.objs.size≤(s1.heap.push (revObj l ((its.toArray.size:Int) - 1))).objs.size by rw[hsz];exact ad8 _) (show b7 X.prog X.w _ h' _ (.lst xs.reverse) from ⟨by rw[aaz];exact hz,its.reverse,c,rv.reverse,by rw[←ea,aem];exact hL⟩),rfl,q _ (I1.hok.fresh (by rw[hsz];exact ad8 _))⟩
end
section
open Builtin Builtin.Str
end
section
variable {X:Cx} {v o a:Expr} {tv to ta:TE} {p1 p2 pos apos cpos:Pos} {c y z:Str} {j j1 j2:Nat}
def Bh (tv:TE):TE:=λσ H Q=>tv σ H λx H1=>∃z,x=.str z∧(∀c∈z.cps.toList,c < 128)∧z.length≤1000000∧∀m,Q (.str m) H1
theorem Qm (hv:PE X v tv) (hc:c.length≤100:=by decide+kernel):PE X (.JoinedStr [.FormattedValue v 114 none p1,.Constant (.str c) j p2] pos) (Bh tv):=by
 intro pins s σ H Q I h;refine wpAny_JoinedStr ?_;refine wpAny_FormattedValue_repr (thn (hv pins s σ H _ I h) λu s1 ⟨x,H1,I1,r1,z,e,ha,hz,q⟩=>?_);subst e;obtain ⟨t,rfl⟩:=r1;have hl:=StrLaws.reprText_len z λc hc=>ae0 (ha c hc) (by decide);have sz:=sizeLine_eq;refine pyReprObj_str ?_ (by omega);have e0:∀w:Str,(Str.empty++w).length=w.length:=λw=>by rw[strLen_append];exact ack _
 refine formatField_str (λt' tk=>⟨_,t',rfl,by rw[e0];omega,?_⟩) (by omega);refine Calls.Constant_str ⟨c,_,rfl,by rw[strLen_append,e0];omega,by rw[strLen_append,e0];omega,?_⟩;exact ⟨.str _,H1,I1.tok _,⟨_,rfl⟩,q _⟩
end
abbrev TF:=St→Hp→(Hp→Prop)→Prop
def PF (X:Cx) (es:List Expr) (n:Nat) (t:TF):Prop:=
 ∀(pins:List (Addr×Obj)) (s:Shared) (σ:St) (H:Hp) (Q:Hp→Prop) (acc:Str),Inv X pins σ H s→acc.length+n≤sizeLine→t σ H Q→
  Joins (model X.prog X.w) X.A X.xe (evalEach es X.env) acc (λout s1=>out.length≤sizeLine∧∃H1,Inv X pins σ H1 s1∧Q H1) s
noncomputable def tF0:TF:=λ_ H Q=>Q H
noncomputable def tFR (tv:TE) (t:TF):TF:=λσ H Q=>tv σ H λx H1=>∃z,x=.str z∧(∀c∈z.cps.toList,c < 128)∧z.length≤1000∧t σ H1 Q
noncomputable def tFI (tv:TE) (t:TF):TF:=λσ H Q=>tv σ H λx H1=>∃a,x=.int a∧a.natAbs.log2 < 1920∧t σ H1 Q
def tFmts (t:TF):TE:=λσ H Q=>t σ H λH1=>∀m,Q (.str m) H1
section
variable {X:Cx} {v e1 e2:Expr} {es:List Expr} {tv:TE} {t:TF} {p pos:Pos} {c:Str} {j n:Nat}
theorem pf_nil:PF X [] 0 tF0:=λpins s σ H Q acc I ha h=>⟨ha,H,I,h⟩
theorem pf_c (r:PF X es n t) (hc:c.length≤100:=by decide+kernel):PF X (.Constant (.str c) j p::es) (100+n) t:=λpins s σ H Q acc I ha h=>
 Calls.Constant_str ⟨c,_,rfl,by rw[strLen_append];omega,r pins _ σ H Q _ (I.tok _) (by rw[strLen_append];omega) h⟩
theorem pf_r (hv:PE X v tv) (r:PF X es n t):PF X (.FormattedValue v 114 none p::es) (20000+n) (tFR tv t):=λpins s σ H Q acc I ha h=>by
 refine wpAny_FormattedValue_repr (thn (hv pins s σ H _ I h) λu s1 ⟨x,H1,I1,r1,z,e,hz,hl,q⟩=>?_);subst e;obtain ⟨t,rfl⟩:=r1;have hl:=StrLaws.reprText_len z λc hc=>ae0 (hz c hc) (by decide);have sz:=sizeLine_eq;refine pyReprObj_str ?_ (by omega);exact formatField_str (λt' tk=>⟨_,t',rfl,by rw[strLen_append];omega,r pins _ σ H1 Q _ (I1.tok _) (by rw[strLen_append];omega) q⟩) (by omega)
theorem pf_i (hv:PE X v tv) (r:PF X es n t):PF X (.FormattedValue v (-1) none p::es) (2000+n) (tFI tv t):=λpins s σ H Q acc I ha h=>by
 refine wpAny_FormattedValue_plain (thn (hv pins s σ H _ I h) λu s1 ⟨x,H1,I1,r1,a,e,hl,q⟩=>?_);subst e;obtain ⟨t,rfl⟩:=r1;have hx:(Str.ofString (toString a)).length≤1921:=by rw[PySem.ofString_length];exact int_text_length_le (by decide) hl
 have sz:=sizeLine_eq;refine formatField_int_small hl ?_;exact ⟨_,_,rfl,by rw[strLen_append];show _+(Str.ofString (toString a)).length≤_;omega,r pins _ σ H1 Q _ (I1.tok _) (by rw[strLen_append];show _+(Str.ofString (toString a)).length+_≤_;omega) q⟩
theorem Pl (h:PF X (e1::e2::es) n t) (hn:n≤1000000:=by decide):PE X (.JoinedStr (e1::e2::es) pos) (tFmts t):=by
 intro pins s σ H Q I hq;have sz:=sizeLine_eq;refine wpAny_JoinedStr ?_;have:=h pins s σ H _ Str.empty I (by show 0+n≤_;omega) hq;have mono:∀(xs:List (Sem Value)) (acc:Str) (Q Q':Str→Shared→Prop) (s:Shared),(∀o s,Q o s→Q' o s)→Joins (model X.prog X.w) X.A X.xe xs acc Q s→Joins (model X.prog X.w) X.A X.xe xs acc Q' s:=by
  intro xs;induction xs with
  | nil=>intro acc Q Q' s hQ h;exact hQ _ _ h
  | cons x r ih=>intro acc Q Q' s hQ h;exact thn h λu s1 ⟨y,t,e,hl,hj⟩=>⟨y,t,e,hl,ih _ _ _ _ hQ hj⟩
 exact mono _ _ _ _ _ (λo s1 ⟨hl,H1,I1,q⟩=>⟨hl,.str o,H1,I1.tok _,⟨_,rfl⟩,q o⟩) this
end
end L2
namespace Pc
open PySem PySem.Spec L2 PyProof.Rows Fm
theorem se {kinds:List Str} {ws:List V} (hk:Kinds kinds) (hw:∀v∈ws,isW v):∀(sh:List V) (p:Nat) (u u':Und) (d m:Nat),(∀v∈sh,isW v)→pend d (sh.map arV)=some 0→eat d ((ws.drop p).map arV)=some m→(∀h∈u.hs,h < ws.length)→bo kinds ws sh p u=some u'→∀h∈u'.hs,h < ws.length
 | [],p,u,u',d,m,_,_,_,hu,h=>by
  have h:some u=some u':=h;cases h
  exact hu
 | v::r,p,u,u',0,m,_,hp,_,_,_=>nomatch hp
 | v::r,p,u,u',d+1,m,hs,hp,he,hu,h=>by
  have hpl:p < ws.length:=by
   rcases ad0 p ws.length with g | g
   ·exact g
   ·rw[ac2 g] at he;cases he
  have hx:ws[p]?=some ws[p]:=aa0 hpl;rw[fz] at h;have eg:ws.getD p .non=ws[p]:=by rw[aae,hx];rfl
  rw[eg] at h;by_cases c:lies (br kinds v) v ws[p]=true
  ·rw[if_pos c] at h;obtain ⟨d',m',h1,h2⟩:=gr hk (hs v aa9) hx (hw _ (ab7 hpl)) hp he c;refine se hk hw r _ _ u' d' m' (λx hx=>hs x (aab _ hx)) h1 h2 (λy hy=>?_) h;unfold Und.put at hy;split at hy
   ·rcases List.mem_append.mp hy with z | z
    ·exact hu y z
    ·rw[List.mem_singleton.mp z];exact hpl
   ·split at hy
    ·exact hu y hy
    ·split at hy
     ·exact hu y hy
     ·exact hu y hy
  ·rw[if_neg c] at h;cases h
theorem x6 (kinds:List Str) (sh:List V):∀z∈aq kinds sh,z∈kinds:=λz hz=>by
 unfold aq at hz;obtain ⟨v,_,hv⟩:=List.mem_filterMap.mp hz;cases v with
 | str y=>
  dsimp only at hv;split at hv
  ·cases hv
   assumption
  ·cases hv
 | _=>cases hv
theorem Hq (kinds:List Str) (sh:List V):(aq kinds sh).length≤sh.length:=abm _ _
noncomputable def cz (kinds:List Str) (rs:List Rl) (ws:List V) (nm kd:Str) (p:Nat):Option (Rl×Und):=
 match rs.find? (λr=>decide (r.name=nm)) with
 | some r=>if r.kind=kd then (bo kinds ws r.shape p ⟨[],[],[]⟩).map (λu=>(r,u)) else none
 | none=>none
theorem ux {kinds:List Str} {rs:List Rl} {ws:List V} {p i:Nat} {r:Rl} (bk:Bk kinds rs) (h:rs[i]?=some r):cz kinds rs ws r.name r.kind p=(bo kinds ws r.shape p ⟨[],[],[]⟩).map (λu=>(r,u)):=by
 unfold cz;rw[find_name bk.nd h];dsimp only;rw[if_pos rfl]
theorem Hz {kinds:List Str} {rs:List Rl} {ws:List V} {p:Nat} {nm kd:Str} (h:∀(i:Nat) (x:Rl),rs[i]?=some x→x.name=nm→x.kind=kd→bo kinds ws x.shape p ⟨[],[],[]⟩=none):cz kinds rs ws nm kd p=none:=by
 unfold cz;cases e:rs.find? (λr=>decide (r.name=nm)) with
 | none=>rfl
 | some r=>
  dsimp only;by_cases c:r.kind=kd
  ·obtain ⟨i,hi⟩:=List.mem_iff_getElem?.mp (acs e);rw[if_pos c,h i r hi (by simpa using af7 e) c];rfl
  ·rw[if_neg c]
theorem sj {kinds:List Str} {rs:List Rl} {ws:List V} {p:Nat} {nm kd:Str} {r:Rl} {u:Und} (h:cz kinds rs ws nm kd p=some (r,u)):r∈rs∧r.name=nm∧r.kind=kd∧bo kinds ws r.shape p ⟨[],[],[]⟩=some u:=by
 unfold cz at h;cases e:rs.find? (λr=>decide (r.name=nm)) with
 | none=>rw[e] at h;cases h
 | some x=>
  rw[e] at h;dsimp only at h;by_cases c:x.kind=kd
  ·rw[if_pos c] at h;obtain ⟨u',h1,h2⟩:=Option.map_eq_some_iff.mp h;cases h2
   exact ⟨acs e,by simpa using af7 e,c,h1⟩
  ·rw[if_neg c] at h;cases h
noncomputable def ip (kinds:List Str) (d:Rl×Und):List Ky:=d.2.hs.zip (aq kinds d.1.shape)
noncomputable def cm (kinds:List Str) (rs:List Rl) (ws:List V):List Str→List Ky→Option (List (Rl×Und))
 | [],[]=>some []
 | [],_::_=>none
 | _::_,[]=>none
 | nm::r,k::st=>match cz kinds rs ws nm k.2 k.1 with
  | some d=>(cm kinds rs ws r (ip kinds d++st)).map (d::·)
  | none=>none
theorem jk {kinds:List Str} {rs:List Rl} {ws:List V} {nm:Str} {r:List Str} {k:Ky} {st:List Ky} {d:Rl×Und} (h:cz kinds rs ws nm k.2 k.1=some d):cm kinds rs ws (nm::r) (k::st)=(cm kinds rs ws r (ip kinds d++st)).map (d::·):=by
 simp only[cm,h]
theorem kh {kinds:List Str} {rs:List Rl} {ws:List V} {nm:Str} {r:List Str} {k:Ky} {st:List Ky} (h:cz kinds rs ws nm k.2 k.1=none):cm kinds rs ws (nm::r) (k::st)=none:=by
 simp only[cm,h]
theorem qr {kinds:List Str} {rs:List Rl} {ws:List V}:∀{ns:List Str} {st:List Ky} {ds:List (Rl×Und)},cm kinds rs ws ns st=some ds→ds.length=ns.length∧∀d∈ds,d.1∈rs
 | [],[],ds,h=>by cases h;exact ⟨rfl,λd hd=>nomatch hd⟩
 | [],_::_,ds,h=>nomatch h
 | _::_,[],ds,h=>nomatch h
 | nm::r,k::st,ds,h=>by
  cases e:cz kinds rs ws nm k.2 k.1 with
  | none=>rw[kh e] at h;cases h
  | some d=>
   rw[jk e] at h;obtain ⟨ds',h1,rfl⟩:=Option.map_eq_some_iff.mp h;obtain ⟨g1,g2⟩:=qr h1;refine ⟨by rw[aai,aai,g1],λx hx=>?_⟩;rcases List.mem_cons.mp hx with rfl | hx
   ·exact (sj (r:=x.1) (u:=x.2) e).1
   ·exact g2 x hx
noncomputable def cpr (ds:List (Rl×Und)):Int:=(ds.map (·.1.price)).sum
def KyOk (ws:List V) (st:List Ky):Prop:=∀k∈st,k.1 < ws.length∧c4 k.2
theorem KyOk.step {kinds:List Str} {rs:List Rl} {ws:List V} (bk:Bk kinds rs) (tw:Tw ws) (kt:∀z∈kinds,c4 z) {k:Ky} {st:List Ky} (h:KyOk ws (k::st)) {nm:Str} {d:Rl×Und} (hr:cz kinds rs ws nm k.2 k.1=some d):KyOk ws (ip kinds d++st)∧(ip kinds d).length≤100∧d.2.hs.length=(aq kinds d.1.shape).length:=by
 obtain ⟨h1,h2,h3,h4⟩:=sj (r:=d.1) (u:=d.2) hr;obtain ⟨w1,w2,w3⟩:=bk.sh _ h1;obtain ⟨n,hn⟩:=tw.eat (h k aa9).1;have li:=se bk.kd (λv hv=>(tw.w v hv).1) _ _ _ _ 1 n w1 w2 hn (λ_ z=>(aa8 z).elim) h4;have hl:d.2.hs.length=(aq kinds d.1.shape).length:=by
  have:=(jm bk.kd _ _ _ _ w1 h4).1;simpa using this
 refine ⟨λx hx=>?_,?_,hl⟩
 ·rcases List.mem_append.mp hx with hx | hx
  ·have:=acr (show (x.1,x.2)∈_ from hx);exact ⟨li _ this.1,kt _ (x6 _ _ _ this.2)⟩
  ·exact h x (aab _ hx)
 ·unfold ip;have:=Hq kinds d.1.shape;rw[aea];omega
theorem jl.tk {H H':Hp} {t:Addr} {r:Rl} {u:Und} (h:jl H t r u) (s:TK H H'):jl H' t r u:=by
 obtain ⟨ra,ut,h1,⟨sa,da,ds,g1,g2,g3⟩,t1,t2,t3,u1,u2,u3,u4⟩:=h;exact ⟨ra,ut,s _ _ h1,⟨sa,da,ds,s _ _ g1,s _ _ g2,s _ _ g3⟩,t1,t2,t3,s _ _ u1,s _ _ u2,s _ _ u3,s _ _ u4⟩
def gh (H:Hp) (as:List Addr) (ds:List (Rl×Und)):Prop:=as.length=ds.length∧∀(j:Nat) (d:Rl×Und),ds[j]?=some d→∃a,as[j]?=some a∧jl H a d.1 d.2
theorem gh.nil (H:Hp):gh H [] []:=⟨rfl,λj d h=>by simp at h⟩
theorem gh.tk {H H':Hp} {as:List Addr} {ds:List (Rl×Und)} (h:gh H as ds) (s:TK H H'):gh H' as ds:=⟨h.1,λj d e=>by obtain ⟨a,a1,a2⟩:=h.2 j d e;exact ⟨a,a1,a2.tk s⟩⟩
theorem gh.snoc {H:Hp} {as:List Addr} {ds:List (Rl×Und)} (h:gh H as ds) {a:Addr} {d:Rl×Und} (g:jl H a d.1 d.2):gh H (as++[a]) (ds++[d]):=by
 refine ⟨by rw[aa2,aa2,h.1];rfl,λj x hj=>?_⟩;by_cases c:j < ds.length
 ·rw[aag c] at hj;obtain ⟨a',h1,h2⟩:=h.2 j x hj;exact ⟨a',by rw[aag (by rw[h.1];exact c)];exact h1,h2⟩
 ·have hl:=(List.getElem?_eq_some_iff.mp hj).1;rw[aa2,aac] at hl;obtain rfl:j=ds.length:=by omega
  rw[aad (aa4 _),acx] at hj;cases hj
  exact ⟨a,by rw[←h.1,aad (aa4 _),acx];rfl,g⟩
def KsL (H:Hp) (as:List Addr) (ks:List Ky):Prop:=as.length=ks.length∧∀(j:Nat) (k:Ky),ks[j]?=some k→∃a,as[j]?=some a∧H a=some (kyT k)
theorem KsL.tk {H H':Hp} {as:List Addr} {ks:List Ky} (h:KsL H as ks) (s:TK H H'):KsL H' as ks:=⟨h.1,λj d e=>by obtain ⟨a,a1,a2⟩:=h.2 j d e;exact ⟨a,a1,s _ _ a2⟩⟩
theorem KsL.app {H:Hp} {as bs:List Addr} {ks js:List Ky} (h:KsL H as ks) (g:KsL H bs js):KsL H (as++bs) (ks++js):=by
 refine ⟨by rw[aa2,aa2,h.1,g.1],λj x hj=>?_⟩;by_cases c:j < ks.length
 ·rw[aag c] at hj;obtain ⟨a',h1,h2⟩:=h.2 j x hj;exact ⟨a',by rw[aag (by rw[h.1];exact c)];exact h1,h2⟩
 ·rw[aad (by omega)] at hj;obtain ⟨a',h1,h2⟩:=g.2 _ x hj;exact ⟨a',by rw[aad (by rw[h.1];omega),h.1];exact h1,h2⟩
theorem KsL.one {H:Hp} {a:Addr} {k:Ky} (h:H a=some (kyT k)):KsL H [a] [k]:=⟨rfl,λj x hj=>by
 cases j with
 | zero=>cases hj;exact ⟨a,rfl,h⟩
 | succ j=>simp at hj⟩
theorem KsL.pop {H:Hp} {as:List Addr} {k:Ky} {st:List Ky} (h:KsL H as (k::st).reverse):∃(bs:List Addr) (a:Addr),as=bs++[a]∧KsL H bs st.reverse∧H a=some (kyT k):=by
 obtain ⟨h1,h2⟩:=h;rw[ach] at h1 h2;rw[aa2,aac] at h1;have hne:as≠[]:=λe=>by rw[e] at h1;simp at h1
 obtain ⟨a,ha,hk⟩:=h2 st.reverse.length k (by rw[aad (aa4 _),acx];rfl);have el:as.length - 1=st.reverse.length:=by omega
 have ea:as.getLast hne=a:=by
  rw[List.getLast_eq_getElem];have:=(List.getElem?_eq_some_iff.mp ha).2;rw[←this];congr 1
 refine ⟨as.dropLast,a,by rw[←ea,adn],⟨by rw[adg];omega,λj x hj=>?_⟩,hk⟩;have hjl:=(List.getElem?_eq_some_iff.mp hj).1;obtain ⟨a',h3,h4⟩:=h2 j x (by rw[aag hjl];exact hj);refine ⟨a',?_,h4⟩;rw[List.getElem?_dropLast,if_pos (by omega)];exact h3
theorem KsAt.l {H:Hp} {l:Addr} {ks:List Ky} (h:KsAt H l ks):∃as:List Addr,H l=some (.lst (as.map V.ref))∧KsL H as ks:=by
 obtain ⟨as,h1,h2,h3⟩:=h;exact ⟨as,h1,h2,h3⟩
theorem Mq {K:PySem.W.Frag} {c:Nat} {a:Addr} {as:List Addr} {fr:L2.St} {tc:TT} {te:TE} {D:Addr} {H1:Hp} {Q:Hp→Prop} (P:Nat→List V→Prop) (hc:c=2) (hS:SqL K H1 a (as.map V.ref)) (hq:∀(i:Nat) (t:Addr),as[i]?=some t→∃x y,H1 t=some (.tup [x,y])) (hn:as.length < sizeLine) (hD:H1 D=none) (h0:P 0 [])
  (step:∀i t x y ys H (G:Hp→Prop) (K':V→Hp→Prop),as[i]?=some t→H1 t=some (.tup [x,y])→P i ys→ah H1 H→(∀H3,ah H H3→P (i+1) ys→G H3)→(∀y H4,ah H H4→P (i+1) (ys++[y])→K' y H4)→tc ([some x,some y]++fr) H λb H3=>if b=true then te ([some x,some y]++fr) H3 K' else G H3)
  (done:∀ys H,P as.length ys→ah H1 H→H D=some (.lst ys)→Q H):LC 2 fr (vw K c (dr (cb 0) (dr (cb 1) Bx))) tc te (Itl K a) D H1 Q:=by
 refine K3 as.length (λi x y _=>∃t,as[i]?=some t∧H1 t=some (.tup [x,y])) (λi ys _=>P i ys) (λ_ _ _ _ _ h=>h) hc hn hD (λi H hi hs=>?_) (λi H v H' hi hs hy=>?_) (λH hs=>⟨_,hs.seq hS,by rw[aa1];exact aa4 _⟩) h0 (λi x y ys H G K' hi hR hP hl hs hG hK=>?_) λys H hP hl hs hd=>done ys H hP hs hd
 ·exact ⟨_,.ref as[i],hs.seq hS,by rw[aaa,aa0 hi];rfl⟩
 ·obtain ⟨rfl,hy⟩:=hy;have ht:as[i]?=some as[i]:=aa0 hi;obtain ⟨x,y,hx⟩:=hq i _ ht;have hv:v=.ref as[i]:=aa3 ((hy _ (hs.seq hS)).symm.trans (by rw[aaa,ht];rfl));exact ⟨ah.refl _,as[i],x,y,hv,SqT.of (hs _ _ hx),as[i],ht,hx⟩
 ·obtain ⟨t,h1,h2⟩:=hR;exact step i t x y ys H G K' h1 h2 hP hs hG hK
def nu (κ:Cl):Sp:=λvs H Q E=>∃(b wt:Addr) (kinds:List Str) (rs:List Rl) (ws:List V) (p:Nat) (nm kd:Str),vs=[.ref b,.str nm,.ref wt,.int (p:Int),.str kd]∧bh H b kinds rs∧H wt=some (.tup ws)∧Bk kinds rs∧Tw ws∧p < ws.length∧c4 nm∧c4 kd∧(∀d,cz kinds rs ws nm kd p=some d→∀(t:Addr) (H':Hp),ah H H'→jl H' t d.1 d.2→Q (.ref t) H')∧(cz kinds rs ws nm kd p=none→∀H',ah H H'→E (.ref κ.badCover) none H')
theorem De {κ:Cl} {b wt:Addr} {kinds:List Str} {rs:List Rl} {ws:List V} {p:Nat} {nm kd:Str} {H:Hp} {Q:VK} {E:XK} (p0:bh H b kinds rs) (p1:H wt=some (.tup ws)) (p2:Bk kinds rs) (p3:Tw ws) (p4:p < ws.length) (p5:c4 nm) (p6:c4 kd) (p7:∀d,cz kinds rs ws nm kd p=some d→∀(t:Addr) (H':Hp),ah H H'→jl H' t d.1 d.2→Q (.ref t) H') (p8:cz kinds rs ws nm kd p=none→∀H',ah H H'→E (.ref κ.badCover) none H'):nu κ [.ref b,.str nm,.ref wt,.int (p:Int),.str kd] H Q E:=⟨b,wt,kinds,rs,ws,p,nm,kd,rfl,p0,p1,p2,p3,p4,p5,p6,p7,p8⟩
def t4 (κ:Cl):Sp:=λvs H Q E=>∃(b wt ct:Addr) (kinds:List Str) (rs:List Rl) (ws:List V) (p:Nat) (kd:Str) (ns:List Str),vs=[.ref b,.ref wt,.int (p:Int),.str kd,.ref ct]∧bh H b kinds rs∧H wt=some (.tup ws)∧H ct=some (.tup (ns.map V.str))∧Bk kinds rs∧Tw ws∧p < ws.length∧c4 kd∧(∀z∈kinds,c4 z)∧(∀z∈ns,c4 z)∧ns.length≤100000∧(∀ds,cm kinds rs ws ns [(p,kd)]=some ds→∀(l:Addr) (as:List Addr) (H':Hp),ah H H'→H' l=some (.lst (as.map V.ref))→gh H' as ds→Q (.ref l) H')∧(cm kinds rs ws ns [(p,kd)]=none→∀H',ah H H'→E (.ref κ.badCover) none H')
theorem Lu {κ:Cl} {b wt ct:Addr} {kinds:List Str} {rs:List Rl} {ws:List V} {p:Nat} {kd:Str} {ns:List Str} {H:Hp} {Q:VK} {E:XK} (p0:bh H b kinds rs) (p1:H wt=some (.tup ws)) (p2:H ct=some (.tup (ns.map V.str))) (p3:Bk kinds rs) (p4:Tw ws) (p5:p < ws.length) (p6:c4 kd) (p7:∀z∈kinds,c4 z) (p8:∀z∈ns,c4 z) (p9:ns.length≤100000) (pa:∀ds,cm kinds rs ws ns [(p,kd)]=some ds→∀(l:Addr) (as:List Addr) (H':Hp),ah H H'→H' l=some (.lst (as.map V.ref))→gh H' as ds→Q (.ref l) H') (pb:cm kinds rs ws ns [(p,kd)]=none→∀H',ah H H'→E (.ref κ.badCover) none H'):t4 κ [.ref b,.ref wt,.int (p:Int),.str kd,.ref ct] H Q E:=⟨b,wt,ct,kinds,rs,ws,p,kd,ns,rfl,p0,p1,p2,p3,p4,p5,p6,p7,p8,p9,pa,pb⟩
def uu (κ:Cl):Sp:=λvs H Q E=>∃(b wt ct:Addr) (kinds:List Str) (rs:List Rl) (ws:List V) (p:Nat) (kd:Str) (ns:List Str),vs=[.ref b,.ref wt,.int (p:Int),.str kd,.ref ct]∧bh H b kinds rs∧H wt=some (.tup ws)∧H ct=some (.tup (ns.map V.str))∧Bk kinds rs∧Tw ws∧p < ws.length∧c4 kd∧(∀z∈kinds,c4 z)∧(∀z∈ns,c4 z)∧ns.length≤100000∧(∀ds,cm kinds rs ws ns [(p,kd)]=some ds→∀(H':Hp),ah H H'→Q (.int (cpr ds)) H')∧(cm kinds rs ws ns [(p,kd)]=none→∀H',ah H H'→E (.ref κ.badCover) none H')
theorem Lq {κ:Cl} {b wt ct:Addr} {kinds:List Str} {rs:List Rl} {ws:List V} {p:Nat} {kd:Str} {ns:List Str} {H:Hp} {Q:VK} {E:XK} (p0:bh H b kinds rs) (p1:H wt=some (.tup ws)) (p2:H ct=some (.tup (ns.map V.str))) (p3:Bk kinds rs) (p4:Tw ws) (p5:p < ws.length) (p6:c4 kd) (p7:∀z∈kinds,c4 z) (p8:∀z∈ns,c4 z) (p9:ns.length≤100000) (pa:∀ds,cm kinds rs ws ns [(p,kd)]=some ds→∀(H':Hp),ah H H'→Q (.int (cpr ds)) H') (pb:cm kinds rs ws ns [(p,kd)]=none→∀H',ah H H'→E (.ref κ.badCover) none H'):uu κ [.ref b,.ref wt,.int (p:Int),.str kd,.ref ct] H Q E:=⟨b,wt,ct,kinds,rs,ws,p,kd,ns,rfl,p0,p1,p2,p3,p4,p5,p6,p7,p8,p9,pa,pb⟩
noncomputable def cf (ws:List V) (p:Nat):Nat:=(eat 1 ((ws.drop p).map arV)).getD 0
noncomputable def E3 (kinds:List Str) (sh:List V):Nat:=(sh.filter λv=>decide (br kinds v≠lH)).length
theorem xb (kinds:List Str) (v:V) (r:List V):E3 kinds (v::r)=(if br kinds v=lH then 0 else 1)+E3 kinds r:=by
 unfold E3;rw[aap];by_cases c:br kinds v=lH
 ·rw[if_neg (by simpa using c),if_pos c,ack]
 ·rw[if_pos (by simpa using c),if_neg c,aai,adz]
theorem Bo {r:List Nat} {n:Nat} (h:eat 1 r=some n):1≤n:=by
 cases r with
 | nil=>cases h
 | cons a r=>
  obtain ⟨k,_,e⟩:=Option.map_eq_some_iff.mp (show (eat (0+a) r).map (·+1)=some n from h);have e:k+1=n:=e;omega
theorem Ew {kinds:List Str} {ws r:List V} {v x:V} {q d m:Nat} (hk:Kinds kinds) (hv:isW v) (hx:ws[q]?=some x) (hxw:isW x) (hp:pend (d+1) (arV v::r.map arV)=some 0) (he:eat (d+1) ((ws.drop q).map arV)=some m)
  (hl:lies (br kinds v) v x=true):∃d' m',pend d' (r.map arV)=some 0∧eat d' ((ws.drop (if br kinds v=lH then endAt ws q else q+1)).map arV)=some m'∧m=m'+(if br kinds v=lH then cf ws q else 1):=by
 have hq:q < ws.length:=(List.getElem?_eq_some_iff.mp hx).1;have ed:ws.drop q=x::ws.drop (q+1):=by
  rw[aax hq];congr 1
  rw[aa0 hq] at hx;exact aa3 hx
 obtain ⟨e1,e2,e3,e4,e5,e6⟩:=lets;have hp:pend (d+arV v) (r.map arV)=some 0:=hp;have one:arV v=arV x→br kinds v≠lH→∃d' m',pend d' (r.map arV)=some 0∧eat d' ((ws.drop (if br kinds v=lH then endAt ws q else q+1)).map arV)=some m'∧m=m'+(if br kinds v=lH then cf ws q else 1):=λh n=>by
  rw[if_neg n,if_neg n];rw[ed,aaw,dm] at he;obtain ⟨k,hk',e⟩:=Option.map_eq_some_iff.mp he;exact ⟨d+arV v,k,hp,by rw[h];exact hk',e.symm⟩
 unfold lies at hl;rcases dv (kinds:=kinds) hv with ⟨rfl,h⟩ | ⟨rfl,h⟩ | ⟨⟨z,hz,rfl⟩,h⟩ | ⟨h,_⟩
 ·refine one ?_ (by rw[h];exact e1);rw[h,if_neg e1,if_pos rfl] at hl;rw[oj];obtain ⟨k,rfl⟩:=hxw;cases k with
  | inl i=>rfl
  | inr y=>cases hl
 ·refine one ?_ (by rw[h];exact e2);rw[h,if_neg e2,if_neg e4,if_pos rfl,acd] at hl;rw[qb];exact (of_decide_eq_true hl.2).symm
 ·rw[if_pos h,if_pos h];have a0:arV (.str z)=0:=(hk z hz).1;rw[a0] at hp;rw[show d+1=1+d by omega,sf] at he;cases h1:eat 1 ((ws.drop q).map arV) with
  | none=>rw[h1] at he;cases he
  | some n=>
   rw[h1] at he;obtain ⟨k,hk',e⟩:=Option.map_eq_some_iff.mp (show (eat d (((ws.drop q).map arV).drop n)).map (n+·)=some m from he);refine ⟨d,k,hp,?_,?_⟩
   ·unfold endAt;rw[h1,show (some n).getD 0=n from rfl,←adl];rw[←ac7] at hk';exact hk'
   ·unfold cf;rw[h1];have e:n+k=m:=e;show m=k+n
    omega
 ·refine one ?_ (by rw[h];exact e3);rw[h,if_neg e3,if_neg e5,if_neg e6] at hl;rw[of_decide_eq_true hl]
noncomputable def szs (ws:List V) (hs:List Nat):Nat:=(hs.map (cf ws)).sum
theorem Qg (ws:List V) (a b:List Nat):szs ws (a++b)=szs ws a+szs ws b:=by
 unfold szs;rw[aa6,adj]
theorem xy {kinds:List Str} {ws:List V} (hk:Kinds kinds) (hw:∀v∈ws,isW v):∀(sh:List V) (p:Nat) (u u':Und) (d m:Nat),(∀v∈sh,isW v)→pend d (sh.map arV)=some 0→eat d ((ws.drop p).map arV)=some m→bo kinds ws sh p u=some u'→szs ws u'.hs+E3 kinds sh=szs ws u.hs+m
 | [],p,u,u',d,m,_,hp,he,h=>by
  have h:some u=some u':=h;cases h
  have hp:some d=some 0:=hp;cases hp
  have he:some 0=some m:=by rw[←he];cases (ws.drop p).map arV <;> rfl
  cases he
  rfl
 | v::r,p,u,u',0,m,_,hp,_,_=>nomatch hp
 | v::r,p,u,u',d+1,m,hs,hp,he,h=>by
  have hpl:p < ws.length:=by
   rcases ad0 p ws.length with g | g
   ·exact g
   ·rw[ac2 g] at he;cases he
  have hx:ws[p]?=some ws[p]:=aa0 hpl;rw[fz] at h;have eg:ws.getD p .non=ws[p]:=by rw[aae,hx];rfl
  rw[eg] at h;by_cases c:lies (br kinds v) v ws[p]=true
  ·rw[if_pos c] at h;obtain ⟨d',m',h1,h2,h3⟩:=Ew hk (hs v aa9) hx (hw _ (ab7 hpl)) hp he c;have ih:=xy hk hw r _ _ u' d' m' (λx hx=>hs x (aab _ hx)) h1 h2 h;rw[xb];by_cases cH:br kinds v=lH
   ·rw[if_pos cH] at h3 ⊢;have e:(u.put (br kinds v) p ws[p]).hs=u.hs++[p]:=by unfold Und.put;rw[if_pos cH]
    rw[e,Qg] at ih;have e2:szs ws [p]=cf ws p:=by unfold szs;simp
    omega
   ·rw[if_neg cH] at h3 ⊢;have e:(u.put (br kinds v) p ws[p]).hs=u.hs:=by
     unfold Und.put;rw[if_neg cH];split
     ·rfl
     ·split <;> rfl
    rw[e] at ih;omega
  ·rw[if_neg c] at h;cases h
noncomputable def xh (kinds:List Str) (g:Ky→Option Int) (p:Nat) (v:Int):Nat:=(kinds.filter λk=>match g (p,k) with | some x=>decide (x < v) | none=>false).length
theorem Qt (kinds:List Str) (g:Ky→Option Int) (p:Nat) (v:Int):xh kinds g p v≤kinds.length:=ab8 _ _
theorem filter_lt {α:Type} {P R:α→Bool}:∀{l:List α} {x:α},(∀y∈l,P y=true→R y=true)→x∈l→P x=false→R x=true→(l.filter P).length < (l.filter R).length
 | [],x,_,h,_,_=>nomatch h
 | y::l,x,hs,h,hp,hr=>by
  have le:(l.filter P).length≤(l.filter R).length:=by
   clear h hp hr;induction l with
   | nil=>exact aa4 _
   | cons z l ih=>
    have ih:=ih λw hw=>hs w (by
     rcases List.mem_cons.mp hw with rfl | hw
     ·exact aa9
     ·exact aab _ (aab _ hw))
    rw[aap,aap];by_cases c:P z=true
    ·rw[if_pos c,if_pos (hs z (aab _ aa9) c),aai,aai];omega
    ·rw[if_neg c];split
     ·rw[aai];omega
     ·exact ih
  rw[aap,aap];rcases List.mem_cons.mp h with rfl | h
  ·rw[if_neg (by rw[hp];decide),if_pos hr,aai];omega
  ·have ih:=filter_lt (λw hw=>hs w (aab _ hw)) h hp hr;by_cases c:P y=true
   ·rw[if_pos c,if_pos (hs y aa9 c),aai,aai];omega
   ·rw[if_neg c];split
    ·rw[aai];omega
    ·exact ih
theorem Ot {kinds:List Str} {g:Ky→Option Int} {p:Nat} {v w:Int} {z:Str} (hz:z∈kinds) (hg:g (p,z)=some w) (h:w < v):xh kinds g p w < xh kinds g p v:=by
 refine filter_lt (x:=z) (λy _ hy=>?_) hz ?_ ?_
 ·cases e:g (p,y) with
  | none=>rw[e] at hy;cases hy
  | some x=>
   rw[e] at hy;have:x < w:=of_decide_eq_true hy;exact decide_eq_true (by omega)
 ·rw[hg];exact decide_eq_false (by omega)
 ·rw[hg];exact decide_eq_true h
noncomputable def phi (kinds:List Str) (ws:List V) (g:Ky→Option Int) (k:Ky):Nat:=(kinds.length+1)*(cf ws k.1 - 1)+1+xh kinds g k.1 ((g k).getD 0)
noncomputable def jq (kinds:List Str) (ws:List V) (g:Ky→Option Int) (ks:List Ky):Nat:=(ks.map (phi kinds ws g)).sum
theorem ja (kinds:List Str) (ws:List V) (g:Ky→Option Int) (k:Ky) (ks:List Ky):jq kinds ws g (k::ks)=phi kinds ws g k+jq kinds ws g ks:=by
 unfold jq;rw[aaw,aco]
theorem Jz (kinds:List Str) (ws:List V) (g:Ky→Option Int) (a b:List Ky):jq kinds ws g (a++b)=jq kinds ws g a+jq kinds ws g b:=by
 unfold jq;rw[aa6,adj]
theorem Lc (kinds:List Str) (ws:List V) (g:Ky→Option Int) (k:Ky) (h:1≤cf ws k.1):phi kinds ws g k≤(kinds.length+1)*cf ws k.1:=by
 unfold phi;have:=Qt kinds g k.1 ((g k).getD 0);obtain ⟨n,hn⟩:∃n,cf ws k.1=n+1:=⟨cf ws k.1 - 1,by omega⟩;rw[hn,acw,Nat.mul_add,Nat.mul_one];omega
theorem Ba (kinds:List Str) (ws:List V) (g:Ky→Option Int):∀ks:List Ky,ks.length≤jq kinds ws g ks
 | []=>aa7 _
 | k::ks=>by
  have:=Ba kinds ws g ks;rw[ja,aai];have:1≤phi kinds ws g k:=by unfold phi;omega
  omega
theorem Bd (kinds:List Str) (ws:List V) (g:Ky→Option Int):∀(hs:List Nat) (zs:List Str),(∀h∈hs,1≤cf ws h)→jq kinds ws g (hs.zip zs)≤(kinds.length+1)*szs ws hs
 | [],zs,_=>by show (0:Nat)≤_;omega
 | h::hs,[],_=>by show (0:Nat)≤_;omega
 | h::hs,z::zs,hp=>by
  have ih:=Bd kinds ws g hs zs λx hx=>hp x (aab _ hx);have h1:=Lc kinds ws g (h,z) (hp h aa9);have e:szs ws (h::hs)=cf ws h+szs ws hs:=by unfold szs;rw[aaw,aco]
  rw[adq,ja,e,Nat.mul_add];have h1:phi kinds ws g (h,z)≤(kinds.length+1)*cf ws h:=h1;omega
theorem size_pos {ws:List V} (tw:Tw ws) {p:Nat} (h:p < ws.length):1≤cf ws p:=by
 obtain ⟨n,hn⟩:=tw.eat h;unfold cf;rw[hn];exact Bo hn
theorem Ma {kinds:List Str} {rs:List Rl} {ws:List V} {g:Ky→Option Int} (bk:Bk kinds rs) (tw:Tw ws) (T:Tbl (ee kinds rs ws) g) {k:Ky} {v:Int} (h:g k=some v):jq kinds ws g (yy kinds rs ws (pick kinds rs ws g k) k.1)+1≤phi kinds ws g k:=by
 obtain ⟨i,r,u,h1,h2,h3,h4,h5,h6,h7,h8⟩:=rj bk T h;rw[h5];obtain ⟨w1,w2,w3⟩:=bk.sh r (aaf h1);obtain ⟨n,hn⟩:=tw.eat h8;have hww:∀v∈ws,isW v:=λv hv=>(tw.w v hv).1;have hs:=xy bk.kd hww _ _ _ _ 1 n w1 w2 hn h4;have hin:=se bk.kd hww _ _ _ _ 1 n w1 w2 hn (λ_ z=>(aa8 z).elim) h4;have hsz:cf ws k.1=n:=by unfold cf;rw[hn];rfl
 have hs:szs ws u.hs+E3 kinds r.shape=n:=by
  have:szs ws ([]:List Nat)=0:=rfl;have hs:szs ws u.hs+E3 kinds r.shape=szs ws []+n:=hs;omega
 have zp:=Bd kinds ws g u.hs (aq kinds r.shape) λx hx=>size_pos tw (hin x hx);cases e:r.shape with
 | nil=>rw[e] at w2;exact absurd rfl w2.ne
 | cons v0 sh=>
  by_cases c:br kinds v0=lH
  ·-- a bare hole
   have wv:isW v0:=w1 v0 (by rw[e];exact aa9);rcases dv (kinds:=kinds) wv with ⟨_,hh⟩ | ⟨_,hh⟩ | ⟨⟨z,hz,rfl⟩,_⟩ | ⟨hh,_⟩
   ·rw[hh] at c;exact absurd c lets.1
   ·rw[hh] at c;exact absurd c lets.2.1
   ·have a0:arV (.str z)=0:=(bk.kd z hz).1;have w2':pend 1 (arV (V.str z)::sh.map arV)=some 0:=by rw[e] at w2;exact w2
    rw[a0] at w2';have w2':pend 0 (sh.map arV)=some 0:=w2';have hsh:sh=[]:=by
     cases sh with
     | nil=>rfl
     | cons=>cases w2'
    subst hsh;have ho:aq kinds [V.str z]=[z]:=by
     unfold aq;rw[abz];simp[hz]
    have hu:u.hs=[k.1]:=by
     rw[e,fz,if_pos (by unfold lies;rw[if_pos c])] at h4;have h4:some _=some u:=h4;cases h4
     unfold Und.put;rw[if_pos c];rfl
    rw[e,ho,hu] at h6 h7;rw[ho,hu];have h6:=h6 (k.1,z) aa9;obtain ⟨x,hx,_⟩:=h6;have h7:prs g [(k.1,z)]+1≤prc g k:=h7;rw[i9] at h7;have p0:prs g []=0:=rfl;have lt:x < v:=by
     unfold prc at h7;rw[h,hx] at h7;have h7:x.toNat+prs g []+1≤v.toNat:=h7;omega
    have rk:=Ot hz hx lt;show jq kinds ws g [(k.1,z)]+1≤_
    rw[ja];have q0:jq kinds ws g []=0:=rfl;unfold phi;rw[hx,h];show _*(cf ws k.1 - 1)+1+xh kinds g k.1 x+_+1≤_*(cf ws k.1 - 1)+1+xh kinds g k.1 v
    omega
   ·rw[hh] at c;exact absurd c lets.2.2.1
  ·have nh:1≤E3 kinds r.shape:=by
    rw[e,xb,if_neg c];omega
   rw[←e];unfold phi;rw[hsz];have:(kinds.length+1)*szs ws u.hs≤(kinds.length+1)*(n - 1):=Nat.mul_le_mul_left _ (by omega);omega
theorem yh {kinds:List Str} {rs:List Rl} {ws:List V} {g:Ky→Option Int} (bk:Bk kinds rs) (tw:Tw ws) (T:Tbl (ee kinds rs ws) g) {k:Ky} {w:List Ky} (h:Prd g (k::w)):jq kinds ws g (yy kinds rs ws (pick kinds rs ws g k) k.1++w)+1≤jq kinds ws g (k::w):=by
 obtain ⟨v,hv,_⟩:=h k aa9;have:=Ma bk tw T hv;rw[Jz,ja];omega
theorem Bg {kinds:List Str} {rs:List Rl} {ws:List V} (bk:Bk kinds rs) (tw:Tw ws) (g:Ky→Option Int) (kd:Str) (h0:0 < ws.length):jq kinds ws g [(0,kd)]≤61000:=by
 have h1:=Lc kinds ws g (0,kd) (size_pos tw h0);have h2:cf ws 0≤1000:=by
  obtain ⟨n,hn⟩:=tw.eat h0;have:=qd _ _ _ hn;unfold cf;rw[hn];rw[aa1,aan] at this;have:=tw.len;show n≤1000
  omega
 have h3:=bk.kl;rw[ja];have q0:jq kinds ws g []=0:=rfl;have:(kinds.length+1)*cf ws 0≤61*1000:=ad2 (by omega) h2;have h1:phi kinds ws g (0,kd)≤(kinds.length+1)*cf ws 0:=h1;omega
theorem l8.at {H H':Hp} {d:Addr} {kinds:List Str} {rs:List Rl} {ws:List V} {g:Ky→Option Int} (h:l8 H d kinds rs ws g) (s:∀o,H d=some o→H' d=some o):l8 H' d kinds rs ws g:=by
 obtain ⟨kvs,h1,h2⟩:=h;exact ⟨kvs,s _ h1,h2⟩
theorem l8.ne {H:Hp} {d a:Addr} {kinds:List Str} {rs:List Rl} {ws:List V} {g:Ky→Option Int} (h:l8 H d kinds rs ws g) {xs:List V} (e:H a=some (.lst xs)):d≠a:=by
 obtain ⟨kvs,h1,h2⟩:=h;exact gx h1 e (by intro z;cases z)
theorem L4 {K:PySem.W.Frag} {i:Nat} {σ:L2.St} {H:Hp} {Q Q':Bool→Hp→Prop} (h:∀b H1,Q b H1→Q' b H1) (c:tBD (tOp (Aq λi j=>V.bl (decide (j < i))) (tCB (yf K) (B2 (m6 i) tNil)) (tC (V.int 0))) σ H Q):tBD (tOp (Aq λi j=>V.bl (decide (j < i))) (tCB (yf K) (B2 (m6 i) tNil)) (tC (V.int 0))) σ H Q':=by
 simp only[jx,tB,tOp,ij,rI0,yf,tCB,B2,tNil,i8,tC] at c ⊢;obtain ⟨v,hv,c⟩:=c;refine ⟨v,hv,?_⟩;cases v with
 | ref p=>
  obtain ⟨ys,h1,i,j,e2,e3,cc,e4,hq⟩:=c;exact ⟨ys,h1,i,j,e2,e3,cc,e4,h _ _ hq⟩
 | _=>exact c.elim
def vh (κ:Cl):Sp:=λvs H Q E=>∃(b wt:Addr) (kd:Str) (kinds:List Str) (rs:List Rl) (ws:List V),vs=[.ref b,.ref wt,.str kd]∧bh H b kinds rs∧H wt=some (.tup ws)∧Bk kinds rs∧Tw ws∧c4 kd∧(∀z∈kinds,c4 z)∧(∀r∈rs,c4 r.name)∧(∀(t:Addr) (H':Hp) (g:Ky→Option Int) (v:Int),ah H H'→H t=none→Tbl (ee kinds rs ws) g→g (0,kd)=some v→H' t=some (.tup ((cov kinds rs ws g [(0,kd)]).map V.str))→Q (.ref t) H')∧∀(H':Hp) (g:Ky→Option Int),ah H H'→Tbl (ee kinds rs ws) g→g (0,kd)=none→E (.ref κ.noCover) none H'
theorem Nc {κ:Cl} {b wt:Addr} {kd:Str} {kinds:List Str} {rs:List Rl} {ws:List V} {H:Hp} {Q:VK} {E:XK} (p0:bh H b kinds rs) (p1:H wt=some (.tup ws)) (p2:Bk kinds rs) (p3:Tw ws) (p4:c4 kd) (p5:∀z∈kinds,c4 z) (p6:∀r∈rs,c4 r.name) (p7:∀(t:Addr) (H':Hp) (g:Ky→Option Int) (v:Int),ah H H'→H t=none→Tbl (ee kinds rs ws) g→g (0,kd)=some v→H' t=some (.tup ((cov kinds rs ws g [(0,kd)]).map V.str))→Q (.ref t) H') (p8:∀(H':Hp) (g:Ky→Option Int),ah H H'→Tbl (ee kinds rs ws) g→g (0,kd)=none→E (.ref κ.noCover) none H'):vh κ [.ref b,.ref wt,.str kd] H Q E:=⟨b,wt,kd,kinds,rs,ws,rfl,p0,p1,p2,p3,p4,p5,p6,p7,p8⟩
theorem Fw {kinds:List Str} {rs:List Rl} {ws:List V} {g:Ky→Option Int} (bk:Bk kinds rs) (tw:Tw ws) (T:Tbl (ee kinds rs ws) g):∀(n:Nat) (st:List Ky),Prd g st→(ke kinds rs ws g n st).length≤jq kinds ws g st
 | 0,_,_=>aa7 _
 | _+1,[],_=>aa7 _
 | n+1,k::w,h=>by
  have ih:=Fw bk tw T n _ (h.step bk T).1;have:=yh bk tw T h;show (ke kinds rs ws g n _).length+1≤_
  omega
end Pc
namespace L2
open PySem PySem.Spec PyProof.Rows
def tTry0 (K:PySem.W.Frag) (D:Addr) (tb:TX) (ts:TS):TS:=λDn σ H=>tb Dn (λcls dx H2=>∃C bm,cls=.ref C∧Xc K C bm∧(Value.ref C::bm).contains (.ref D)=true∧ts Dn σ H2) σ H
section
variable {X:Cx} {D:Addr} {bD:List Value} {y:Str} {cp hpos tpos:Pos} {body suite:List Stmt} {b₀:Stmt} {tb:TX} {ts:TS}
theorem Ra (S:Br X) (cD:Xc X.K D bD) (hm:X.mg y=some (.ref D)) (hb:PXS X body tb) (hs:∀a,PSs (X.inX a).nox (b₀::suite) ts)
  (hg:Gl X y:=by rfl) (hdb:(y==("__debug__":Str))=false:=by decide+kernel):PS X (.Try body [.ExceptHandler (some (.Name y cp)) none (b₀::suite) hpos] [] [] tpos) (tTry0 X.K D tb ts):=by
 intro pins s σ H Dn I h;refine wpAny_Try_except (wpAny_mono (hb pins s σ H _ _ I h) (λf s1 q=>?_) λe s1 z=>?_)
 ·cases f with
  | next=>exact wpAny_execs_nil q
  | ret v=>exact q
  | brk=>exact q
  | cont=>exact q
 ·obtain ⟨H1,nn,a,cls,dx,rfl,I1,B,F,C,bm,rfl,c,hc,q⟩:=z;refine Eh I1 B F S rfl rfl λh2 I2 F2=>?_;refine ic I2 B F2 λh3 I3 F3=>?_;have I3':Inv (X.inX a) pins σ H1 { s1 with heap:=h3 }:=I3.inX;refine wpAny_handleBy_cons (codeAny_handlers_test (nq I3' hg hm ?_ hdb)) (by intro q;cases q);obtain ⟨oe,vs,f1,f2,f3,f4,f5,T,oT,ts',k1,k2,k3,k4,k5,k6,k7⟩:=F3.ob;refine xmatch (K:=X.K) I3.kIn c cD f1 f2 ?_;rw[hc];refine codeAny_handlers_suite (ic I3 B F3 λh4 I4 F4=>?_);refine wpAny_mono (hs a pins _ _ _ _ (I4.inX.n0 _) q) (λf s7 w=>?_) λ_ _ z=>False.elim z;cases f with
  | next=>
   obtain ⟨σ7,H7,J,w⟩:=w;exact ⟨_,H7,J.dn.outX I4.ok,w⟩
  | brk=>
   obtain ⟨σ7,H7,J,w⟩:=w;exact ⟨_,H7,J.dn.outX I4.ok,w⟩
  | cont=>
   obtain ⟨σ7,H7,J,w⟩:=w;exact ⟨_,H7,J.dn.outX I4.ok,w⟩
  | ret u=>
   obtain ⟨v,σ7,H7,J,r,w⟩:=w;exact ⟨v,_,H7,J.dn.outX I4.ok,r,w⟩
end
end L2
namespace Pc
open PySem PySem.Spec L2 PyProof.Rows Fm
section
variable {kinds:List Str} {rs:List Rl} {ws:List V}
variable {g:Ky→Option Int}
theorem Cp:∀{hs:List Ky} {c:Int},Prd g hs→cost g c hs=some (c+(prs g hs:Int))
 | [],c,_=>by
  show some c=some (c+((0:Nat):Int))
  congr 1
  omega
 | k::hs,c,h=>by
  obtain ⟨v,hv,h1⟩:=h k aa9;rw[dz hv,Cp λx hx=>h x (aab _ hx),i9];have:prc g k=v.toNat:=by unfold prc;rw[hv];rfl
  rw[this];congr 1
  omega
theorem xx (bk:Bk kinds rs) (T:Tbl (ee kinds rs ws) g):∀(n:Nat) (st:List Ky),Prd g st→prs g st≤n→∃ds,cm kinds rs ws (ke kinds rs ws g n st) st=some ds∧cpr ds=(prs g st:Int)
 | 0,[],_,_=>⟨[],rfl,rfl⟩
 | _+1,[],_,_=>⟨[],rfl,rfl⟩
 | 0,k::w,h,hn=>by
  have:=(h.step bk T).2;omega
 | n+1,k::w,h,hn=>by
  obtain ⟨v,hv,_⟩:=h k aa9;obtain ⟨i,r,u,h1,h2,h3,h4,h5,h6,h7,h8⟩:=rj bk T hv;obtain ⟨s1,s2⟩:=h.step bk T;obtain ⟨ds,d1,d2⟩:=xx bk T n _ s1 (by omega);have hru:cz kinds rs ws (pick kinds rs ws g k) k.2 k.1=some (r,u):=by
   rw[←h2,←h3,ux bk h1,h4];rfl
  refine ⟨(r,u)::ds,?_,?_⟩
  ·show cm kinds rs ws (pick kinds rs ws g k::ke kinds rs ws g n _) (k::w)=_
   rw[h5] at d1;rw[jk hru,h5,show ip kinds (r,u)=u.hs.zip (aq kinds r.shape) from rfl,d1];rfl
  ·have e2:cpr ((r,u)::ds)=r.price+cpr ds:=by unfold cpr;rw[aaw,aco]
   rw[e2,d2,h5,vc,i9];have hc:cost g r.price (u.hs.zip (aq kinds r.shape))=some v:=by
    obtain ⟨ro,hro,a1,a2,a3⟩:=mj bk T hv;obtain ⟨nm,hnm⟩:=je T hro;obtain ⟨m1,m2,m3⟩:=j5 hro;have ek:k=(ro.place,ro.kind):=by rw[a1,a2]
    have ep:pick kinds rs ws g k=nm:=by
     unfold pick;rw[acz,ek];dsimp only;rw[m2];show (namesW (bq kinds rs ws ro.place) g ro.kind ro.price).head?.getD ""=nm
     rw[←m3,hnm];rfl
    obtain ⟨i',r',u',b1,b2,b3,b4,b5⟩:=vt bk hro (adv hnm);obtain rfl:i=i':=bk.name h1 b1 (b2.trans (ep.symm.trans h2.symm));obtain rfl:r=r':=aa3 (h1.symm.trans b1);rw[a1] at b4;obtain rfl:u=u':=aa3 (h4.symm.trans b4);rw[←a3];exact b5
   rw[Cp h6] at hc;have hc:=aa3 hc;have vp:=T.pos _ _ hv;have:prc g k=v.toNat:=by unfold prc;rw[hv];rfl
   rw[this];omega
theorem Jd (bk:Bk kinds rs) (T:Tbl (ee kinds rs ws) g) {k:Ky} {v:Int} (h:g k=some v):∃ds,cm kinds rs ws (cov kinds rs ws g [k]) [k]=some ds∧cpr ds=v:=by
 have vp:=T.pos _ _ h;obtain ⟨ds,h1,h2⟩:=xx bk T (prs g [k]) [k] (λx hx=>by rw[List.mem_singleton.mp hx];exact ⟨v,h,vp⟩) (aa4 _);refine ⟨ds,h1,?_⟩;rw[h2,i9];have:prc g k=v.toNat:=by unfold prc;rw[h];rfl
 have p0:prs g []=0:=rfl;rw[this];omega
end
def uq:Sp:=λvs H Q _=>∃(b wt:Addr) (kd:Str) (kinds:List Str) (rs:List Rl) (ws:List V) (g:Ky→Option Int),vs=[.ref b,.ref wt,.str kd]∧bh H b kinds rs∧H wt=some (.tup ws)∧Bk kinds rs∧Tw ws∧c4 kd∧(∀z∈kinds,c4 z)∧(∀r∈rs,c4 r.name)∧Tbl (ee kinds rs ws) g∧(g (0,kd)=none→∀H',ah H H'→Q .non H')∧∀(v:Int) (t:Addr) (H':Hp),g (0,kd)=some v→ah H H'→H' t=some (.tup ((cov kinds rs ws g [(0,kd)]).map V.str))→Q (.ref t) H'
theorem M9 {b wt:Addr} {kd:Str} {kinds:List Str} {rs:List Rl} {ws:List V} {g:Ky→Option Int} {H:Hp} {Q:VK} {E:XK} (p0:bh H b kinds rs) (p1:H wt=some (.tup ws)) (p2:Bk kinds rs) (p3:Tw ws) (p4:c4 kd) (p5:∀z∈kinds,c4 z) (p6:∀r∈rs,c4 r.name) (p7:Tbl (ee kinds rs ws) g) (p8:g (0,kd)=none→∀H',ah H H'→Q .non H') (p9:∀(v:Int) (t:Addr) (H':Hp),g (0,kd)=some v→ah H H'→H' t=some (.tup ((cov kinds rs ws g [(0,kd)]).map V.str))→Q (.ref t) H'):uq [.ref b,.ref wt,.str kd] H Q E:=⟨b,wt,kd,kinds,rs,ws,g,rfl,p0,p1,p2,p3,p4,p5,p6,p7,p8,p9⟩
theorem qm {kinds:List Str} {rs:List Rl} {ws:List V}:∀{ns:List Str} {st:List Ky} {ds:List (Rl×Und)},cm kinds rs ws ns st=some ds→∀z∈ns,∃r∈rs,r.name=z
 | [],_,_,_,z,hz=>(aa8 hz).elim
 | _::_,[],_,h,_,_=>nomatch h
 | nm::r,k::st,ds,h,z,hz=>by
  cases e:cz kinds rs ws nm k.2 k.1 with
  | none=>rw[kh e] at h;cases h
  | some d=>
   rw[jk e] at h;obtain ⟨ds',h1,rfl⟩:=Option.map_eq_some_iff.mp h;rcases List.mem_cons.mp hz with rfl | hz
   ·obtain ⟨r1,r2,_⟩:=sj (r:=d.1) (u:=d.2) e;exact ⟨d.1,r1,r2⟩
   ·exact qm h1 z hz
end Pc
namespace L2
open PySem PySem.Spec PyProof.Rows
abbrev NK:=Int×Str×List Str
section
variable {P:Program} {w:World}
def y6 (P:Program) (w:World) (h:Heap) (m:Nat) (v:Value) (p:Int×Nat):Prop:=∀(A:Around) (E:Value→Shared→Prop) (s:Shared) (Q:Int→Shared→Prop),s.heap=h→A.units+m < cLine→Q p.1 { s with toks:=s.toks+p.2 }→wpAny (model P w) A (pyHash v) Q E s
theorem Ed {h:Heap} {m:Nat} {a:Addr} {its:Array Value} {ps:List (Int×Nat)} (ht:IsTup h a its) (hi:Paired (λv p=>y6 P w h m v p) its.toList ps):
  y6 P w h (m+1) (.ref a) (reduceHash (Builtin.Tuple.tupleHashOf (ps.map (·.1))),(ps.map (·.2)).sum+1):=by
 intro A E s Q hs hu q;subst hs;have hT:s.TypeIs (.ref a) "tuple":=ht.typeIs;obtain ⟨o,ho,hc,n,hd⟩:=id ht;have hu0:A.units < cLine:=by omega
 unfold pyHash pyHashByItsType;refine wpAny_bind (wpAny_cRoomFor_or (.inr hu0) (wpAny_bind (wpAny_specialOf hT F.slot_tuple_hash.lookup ?_)));have nb:¬(some (Value.builtin "tuple.__hash__")==some Value.none)=true:=by rw[beq_builtin_none];exact aaj
 dsimp only;rw[if_neg nb];refine wpAny_bind (wpAny_specialOf hT F.slot_tuple_hash.lookup ?_);show wpAny _ A (callSpecialIfBoundUnlessNone? (Value.ref a) "__hash__" _ >>=_) Q E s
 refine wpAny_bind (wpAny_callSpecialIfBoundUnlessNone?_slot hT F.slot_tuple_hash (wpAny_call_entry F.slot_tuple_hash hT F.entry_tuple_hash (?_:wpAny _ _ (Builtin.Tuple.tupleItemsOf (.ref a) >>=_) _ _ s) (F.args_tuple_hash_1 _)));refine wpAny_bind (wpAny_tupleItemsOf ho hd (wpAny_bind ?_));rw[←acy];refine wpAny_forIn_list _ (λrest (b:Array Int) s'=>∃done left,ps=done++left∧Paired (λv p=>y6 P w s.heap m v p) rest left∧b.toList=done.map (·.1)∧s'={ s with toks:=s.toks+(done.map (·.2)).sum }) _ ?_ ?_ _ _ ⟨[],ps,rfl,hi,rfl,rfl⟩
 ·rintro x rest b s' ⟨done,left,e,hl,hb,rfl⟩;cases hl with
  | @cons _ p _ left' h1 hl'=>
   have hu1:A.in1.units+m < cLine:=by
    show A.units+1+m < cLine
    omega
   refine wpAny_bind (h1 _ _ _ _ rfl hu1 ?_);refine wpAny_pure ⟨done++[p],left',by rw[e,abo];rfl,hl',?_,?_⟩
   ·rw[aeu,hb,aa6];rfl
   ·rw[aa6,adj];simp[adt]
 ·rintro b s' ⟨done,left,e,hl,hb,rfl⟩;cases hl
  rw[ab3] at e;subst e;refine (show wpAny _ _ (retInt (Builtin.Tuple.tupleHashOf b.toList)) _ _ _ from wpAny_ret_mkInt ?_);rw[hb];generalize Builtin.Tuple.tupleHashOf (ps.map (·.1))=j at q ⊢;show wpAny _ A (pyHashByItsType.reduced j) Q E _
  unfold reduceHash at q;unfold pyHashByItsType.reduced;by_cases hj:(decide (-(2:Int) ^ 63≤j)&&decide (j < 2 ^ 63))=true
  ·rw[if_pos hj] at q ⊢;exact wpAny_pure (by simpa [adt] using q)
  ·rw[if_neg hj] at q ⊢;exact wpAny_bind (wpAny_rule (wpAny_pure (by simpa [adt] using q)))
theorem Lg (bs:List Str):bs.map V.str=(bs.map (Sum.inr:Str→Key)).map kV:=by rw[ac3];rfl
def xc (h:Heap) (bs:List Str) (b:Addr):Prop:=∃its:List Value,Vals (bs.map V.str) its∧IsTup h b its.toArray
def jg (h:Heap) (k:NK) (a:Addr):Prop:=∃t u b,IsTup h a #[.int k.1 t,.str k.2.1 u,.ref b]∧xc h k.2.2 b
theorem wq {h:Heap} {a:Addr} {x y:Array Value} (hx:IsTup h a x) (hy:IsTup h a y):x=y:=by
 obtain ⟨o,h1,_,n,h2⟩:=hx;obtain ⟨o',h3,_,n',h4⟩:=hy;obtain rfl:o=o':=aa3 (h1.symm.trans h3);rw[h2] at h4;cases h4
 rfl
theorem xv:∀{x y:List Str} {us:List Value},Vals (x.map V.str) us→Vals (y.map V.str) us→x=y
 | [],[],_,_,_=>rfl
 | [],_::_,_,.nil,h=>nomatch h
 | _::_,[],_,h,.nil=>nomatch h
 | a::x,b::y,_,.cons r t,.cons r' t'=>by
  obtain ⟨_,e⟩:=r;obtain ⟨_,e'⟩:=r';rw[e] at e';cases e'
  rw[xv t t']
theorem xc.inj {h:Heap} {a:Addr} {x y:List Str} (hx:xc h x a) (hy:xc h y a):x=y:=by
 obtain ⟨i,r,p⟩:=hx;obtain ⟨j,r',p'⟩:=hy;obtain rfl:i=j:=by simpa using wq p p'
 exact xv r r'
theorem jg.inj {h:Heap} {a:Addr} {x y:NK} (hx:jg h x a) (hy:jg h y a):x=y:=by
 obtain ⟨x1,x2,x3⟩:=x;obtain ⟨y1,y2,y3⟩:=y;obtain ⟨t,u,b,p,q⟩:=hx;obtain ⟨t',u',b',p',q'⟩:=hy;have e:=wq p p';simp only[Array.mk.injEq,ac6,Value.int.injEq,Value.str.injEq,Value.ref.injEq,and_true] at e;obtain ⟨⟨e1,_⟩,⟨e2,_⟩,e3⟩:=e;subst e1 e2 e3;obtain rfl:x3=y3:=q.inj q';rfl
theorem B4 {h h':Heap} {a d:Addr} {o:Obj} {its:Array Value} {es ep} (x:IsTup h a its) (ho:h.get? d=some o) (hd:o.data=.dict es ep) (hs:Heap.SameBut d h h'):IsTup h' a its:=by
 obtain ⟨o',h1,h2,n,h3⟩:=x;have ne:a≠d:=λe=>by
  subst e;obtain rfl:o'=o:=aa3 (h1.symm.trans ho);rw[hd] at h3;exact nomatch h3
 exact ⟨o',(hs.2 a ne).trans h1,h2,n,h3⟩
noncomputable def rn (P:Program) (w:World) (k:NK):List (Int×Nat):=[((ay P w).hash (.inl k.1),1),((ay P w).hash (.inr k.2.1),1),(tupleKeyHash (ay P w) (k.2.2.map Sum.inr),(k.2.2.map (Sum.inr:Str→Key)).length+1)]
theorem jg.hash {h:Heap} {k:NK} {a:Addr} (x:jg h k a):y6 P w h 1 (.ref a) (reduceHash (Builtin.Tuple.tupleHashOf ((rn P w k).map (·.1))),((rn P w k).map (·.2)).sum+1):=by
 obtain ⟨t,u,b,p,its,r,q⟩:=x;refine Ed p (.cons ?_ (.cons ?_ (.cons ?_ .nil)))
 ·intro A E s Q _ _ z;exact (ay P w).pyHash (k:=.inl k.1) (jo (show RelV (kV (.inl k.1)) (.int k.1 t) from ⟨t,rfl⟩)) z
 ·intro A E s Q _ _ z;exact (ay P w).pyHash (k:=.inr k.2.1) (jo (show RelV (kV (.inr k.2.1)) (.str k.2.1 u) from ⟨u,rfl⟩)) z
 ·intro A E s Q hs hu z;subst hs;rw[Lg] at r;obtain ⟨o,h1,h2,n,h3⟩:=q;exact (tupleKind (ay P w)).pyHash (k:=k.2.2.map Sum.inr) (show A.units < cLine from hu) ⟨o,_,n,h1,h2,h3,by simpa using oz r⟩ z
theorem Jj {A:Around} {s:Shared} {x y:List Str} {a b:Addr} (hx:xc s.heap x a) (hy:xc s.heap y b) (hu:A.units < cLine):SeqAt.EqAt A s (.ref a) (.ref b) (decide (x=y)):=by
 by_cases e:a=b
 ·subst e;obtain rfl:=hx.inj hy;rw[decide_eq_true rfl];exact SeqAt.EqAt.same _
 obtain ⟨i1,r1,p1⟩:=hx;obtain ⟨i2,r2,p2⟩:=hy;have l1:=r1.length;have l2:=r2.length;rw[aa1] at l1 l2;rw[Lg] at r1 r2;refine SeqAt.EqAt.of_refs e λP' w' E Q q=>SeqAt.RcAt.tuples (e:=λj=>decide ((x.map (Sum.inr:Str→Key))[j]?=(y.map Sum.inr)[j]?)) (show s.heap.IsTuple a i1.toArray from p1) (show s.heap.IsTuple b i2.toArray from p2) hu (λj h1 h2=>yb (A:=A.in1) (s:=s) r1 r2 j h1 h2) P' w' E Q ?_;rw[aa5,aa5,←l1,←l2];by_cases hl:x.length=y.length
 ·rw[←hl,ae2];have:((aaq x.length).all λj=>decide ((x.map (Sum.inr:Str→Key))[j]?=(y.map Sum.inr)[j]?))=decide (x=y):=by
   rw[ac4,af2,decide_eq_true_eq];constructor
   ·intro h;apply ad6
    intro j;by_cases hj:j < x.length
    ·have:=of_decide_eq_true (h j (List.mem_range.mpr hj));rw[aaa,aaa,aa0 hj,aa0 (by omega)] at this;rw[aa0 hj,aa0 (by omega)];simpa using this
    ·rw[List.getElem?_eq_none_iff.mpr (by omega),List.getElem?_eq_none_iff.mpr (by omega)]
   ·intro h j _;rw[h];exact decide_eq_true rfl
  rw[this];simpa using q
 ·have:¬x=y:=λe=>hl (by rw[e]);rw[decide_eq_false this] at q;rw[beq_eq_false_iff_ne.mpr hl,adk];exact q
theorem Ig {A:Around} {s:Shared} {x y:NK} {a b:Addr} (hx:jg s.heap x a) (hy:jg s.heap y b) (hu:A.units+1 < cLine):SeqAt.EqAt A s (.ref a) (.ref b) (decide (x=y)):=by
 by_cases e:a=b
 ·subst e;obtain rfl:=hx.inj hy;rw[decide_eq_true rfl];exact SeqAt.EqAt.same _
 obtain ⟨x1,x2,x3⟩:=x;obtain ⟨y1,y2,y3⟩:=y;obtain ⟨t,u,c,p,q⟩:=hx;obtain ⟨t',u',c',p',q'⟩:=hy;refine SeqAt.EqAt.of_refs e λP' w' E Q qq=>SeqAt.RcAt.tuples (e:=λj=>if j=0 then x1==y1 else if j=1 then x2==y2 else decide (x3=y3)) (show s.heap.IsTuple a _ from p) (show s.heap.IsTuple b _ from p') (aah hu) (λj h1 h2=>?_) P' w' E Q ?_
 ·match j,h1,h2 with
  | 0,_,_=>exact SeqAt.EqAt.int_int _ _ _ _
  | 1,_,_=>exact SeqAt.EqAt.str_str _ _ _ _
  | 2,_,_=>exact Jj (A:=A.in1) q q' hu
  | j+3,h1,_=>exact absurd h1 (by show ¬(j+3 < 3);omega)
 ·refine (congrArg (λz=>Q (.bool z) s) ?_).mp qq;show decide ((x1,x2,x3)=(y1,y2,y3))=((x1==y1&&((x2==y2)&&(decide (x3=y3)&&true)))&&true)
  rw[aen,aen,ac4];simp
noncomputable def ir (P:Program) (w:World):HeapKind P w NK where
 is:=jg
 hash:=λk=>reduceHash (Builtin.Tuple.tupleHashOf ((rn P w k).map (·.1)))
 draws:=λk=>((rn P w k).map (·.2)).sum+1
 room:=λA=>A.units+1 < cLine
 inj:=λhx hy=>hx.inj hy
 keeps:=λx ho hd hs=>by
  obtain ⟨t,u,b,p,its,r,q⟩:=x;exact ⟨t,u,b,B4 p ho hd hs,its,r,B4 q ho hd hs⟩
 pyHash:=λhu hk h=>hk.hash _ _ _ _ rfl hu h
 eqBool:=λhu hx hy h=>Ig hx hy hu _ _ _ _ h
 quiet:=λ{A E s k a Q} hk h=>by
  obtain ⟨t,u,b,p,its,r,q⟩:=hk;refine wo (P:=P) (w:=w) 2 8 (by decide) (.inr ⟨a,_,rfl,p,λv hv=>?_⟩) h;have hv:v∈[Value.int k.1 t,.str k.2.1 u,.ref b]:=hv;simp only[aal,aa8,or_false] at hv;rcases hv with rfl | rfl | rfl
  ·exact .inl ⟨.inl k.1,jo (show RelV (kV (.inl k.1)) (.int k.1 t) from ⟨t,rfl⟩)⟩
  ·exact .inl ⟨.inr k.2.1,jo (show RelV (kV (.inr k.2.1)) (.str k.2.1 u) from ⟨u,rfl⟩)⟩
  ·refine .inr ⟨b,_,rfl,q,λv hv=>?_⟩;obtain ⟨x,mx,rx⟩:=Cn r v (by simpa using hv);obtain ⟨z,_,rfl⟩:=List.mem_map.mp mx;exact ⟨.inr z,jo rx⟩
end
noncomputable def NDo (P:Program) (w:World) (a:Addr) (xs:List (NK×Addr×Value)):HO:=.ext λh=>∃o es ep,h.get? a=some o∧o.ExactDict∧o.data=.dict es ep∧es.toList=xs.map (entryOfKey (ir P w))∧(xs.map (·.1)).Nodup
def oq (H:Hp) (b:Addr) (k:NK):Prop:=∃c,H b=some (.tup [.int k.1,.str k.2.1,.ref c])∧H c=some (.tup (k.2.2.map V.str))
theorem oq.tk {H H':Hp} {b:Addr} {k:NK} (h:oq H b k) (s:TK H H'):oq H' b k:=let ⟨c,h1,h2⟩:=h;⟨c,s _ _ h1,s _ _ h2⟩
abbrev KN (H:Hp):List (NK×V)→List (NK×Addr×Value)→Prop:=Paired λp q=>p.1=q.1∧oq H q.2.1 p.1∧RelV p.2 q.2.2
def ND (P:Program) (w:World) (H:Hp) (a:Addr) (kvs:List (NK×V)):Prop:=(a==sysModules)=false∧kvs.length≤sizeLine∧∃xs,H a=some (NDo P w a xs)∧KN H kvs xs
theorem ND.at {P:Program} {w:World} {H H':Hp} {a:Addr} {kvs:List (NK×V)} (h:ND P w H a kvs) (s:TK H H') (e:∀o,H a=some o→H' a=some o):ND P w H' a kvs:=
 let ⟨h1,h2,xs,h3,h4⟩:=h
 ⟨h1,h2,xs,e _ h3,Paired.mapP h4 λ_ _ z=>⟨z.1,z.2.1.tk s,z.2.2⟩⟩
theorem ND.ex {P:Program} {w:World} {H:Hp} {a:Addr} {kvs:List (NK×V)} (h:ND P w H a kvs):∃φ,H a=some (.ext φ):=let ⟨_,_,xs,h3,_⟩:=h;⟨_,h3⟩
theorem ND.tup {P:Program} {w:World} {H H':Hp} {a:Addr} {kvs:List (NK×V)} (h:ND P w H a kvs) (s:∀b o,b≠a→H b=some o→H' b=some o):TK H H':=λb xs hb=>by
 obtain ⟨φ,e⟩:=h.ex;exact s _ _ (λz=>by rw[z,e] at hb;cases hb) hb
theorem Ef {H:Hp} {kvs:List (NK×V)} {xs:List (NK×Addr×Value)} (r:KN H kvs xs) (k:NK):mh (cu kvs k) ((atKey xs k).map (·.2)):=by
 induction r with
 | nil=>trivial
 | @cons p q ps qs h t ih=>
  by_cases e:p.1=k
  ·rw[bw e,show atKey (q::qs) k=some q.2 by simp[atKey,abw,h.1.symm.trans e]];exact h.2.2
  ·have e':¬q.1=k:=λz=>e (h.1.trans z);rw[bu e,show atKey (q::qs) k=atKey qs k by simp[atKey,abw,e']];exact ih
theorem P9 {H:Hp} {kvs:List (NK×V)} {xs:List (NK×Addr×Value)} (r:KN H kvs xs) (k:NK) {y:V} {u:Value} (ry:RelV y u):KN H (kvs.map λkv=>if kv.1=k then (kv.1,y) else kv) (xs.map (putAt k u)):=by
 induction r with
 | nil=>exact .nil
 | @cons p q ps qs h t ih=>
  simp only[aaw];refine .cons ?_ ih;unfold putAt;by_cases e:p.1=k
  ·rw[if_pos e,if_pos (h.1.symm.trans e)];exact ⟨h.1,h.2.1,ry⟩
  ·rw[if_neg e,if_neg λz=>e (h.1.trans z)];exact h
theorem kn_put {H:Hp} {kvs:List (NK×V)} {xs:List (NK×Addr×Value)} (r:KN H kvs xs) (k:NK) {b:Addr} {y:V} {u:Value} (hb:oq H b k) (ry:RelV y u):KN H (putK kvs k y) (storedH xs k b u):=by
 have e:(kvs.any λkv=>decide (kv.1=k))=(atKey xs k).isSome:=by rw[eh,(Ef r k).gb,aci]
 unfold putK storedH;rw[e];by_cases q:(atKey xs k).isSome=true
 ·rw[if_pos q,if_pos q];exact P9 r k ry
 ·rw[if_neg q,if_neg q];exact Paired.snoc r ⟨rfl,hb,ry⟩
section
variable {P:Program} {w:World} {H:Hp} {h:Heap} {a:Addr}
theorem sr {b:Addr} {k:NK} (ok:HOk P w H h) (x:oq H b k):jg h k b:=by
 obtain ⟨c,h1,h2⟩:=x;obtain ⟨_,its,r,p⟩:=y9 ok h1;obtain ⟨_,its2,r2,p2⟩:=y9 ok h2;cases r with
 | cons x1 r=>cases r with
  | cons x2 r=>cases r with
   | cons x3 r=>
    cases r
    obtain ⟨t,rfl⟩:=x1;obtain ⟨u,rfl⟩:=x2;cases x3
    exact ⟨t,u,c,p,its2,r2,p2⟩
theorem Ln {kvs:List (NK×V)} (ok:HOk P w H h) (e:ND P w H a kvs):∃xs,KN H kvs xs∧h.DictOfH (ir P w) a xs:=by
 obtain ⟨_,_,xs,h1,h2⟩:=e;obtain ⟨⟨o,es,ep,g1,g2,g3,g4,g5⟩,_⟩:=(show b7 P w H h a (NDo P w a xs) from ok a _ h1);refine ⟨xs,h2,o,es,ep,g1,g2,g3,g4,?_,g5⟩;have all:∀{l:List (NK×V)} {m:List (NK×Addr×Value)},KN H l m→∀x∈m,(ir P w).is h x.1 x.2.1:=by
  intro l m q;induction q with
  | nil=>exact λx hx=>nomatch hx
  | @cons p q ps qs hq t ih=>
   intro x hx;rcases List.mem_cons.mp hx with e | hx
   ·subst e;exact sr ok (by rw[←hq.1];exact hq.2.1)
   ·exact ih x hx
 exact all h2
end
def NGet (P:Program) (w:World) (H:Hp) (a:Addr) (y:V) (r:Option V):Prop:=∃kvs k b,ND P w H a kvs∧y=.ref b∧oq H b k∧r=cu kvs k
section
variable {X:Cx} {o i e value:Expr} {pos pos':Pos} {td ty tv:TE}
def tNGet (P:Program) (w:World) (td ty:TE):TE:=λσ H Q=>td σ H λx H1=>ty σ H1 λy H2=>∃a v,x=.ref a∧NGet P w H2 a y (some v)∧Q v H2
def tNIn (P:Program) (w:World) (ty td:TE):TE:=λσ H Q=>ty σ H λy H1=>td σ H1 λx H2=>∃a o,x=.ref a∧NGet P w H2 a y o∧Q (.bl o.isSome) H2
def Jl (P:Program) (w:World) (td ty tv:TE):TS:=λD σ H=>tv σ H λv H1=>td σ H1 λx H2=>ty σ H2 λy H3=>∃a kvs k b,x=.ref a∧ND P w H3 a kvs∧y=.ref b∧oq H3 b k∧kvs.length < sizeLine∧∀H4,(∀c u,c≠a→H3 c=some u→H4 c=some u)→ND P w H4 a (putK kvs k v)→D.nx σ H4
def tNNew (P:Program) (w:World):TE:=λ_ H Q=>∀p H',H p=none→ah H H'→ND P w H' p []→Q (.ref p) H'
theorem Qf (hu:X.A.units+8 < cLine) (ho:PE X o td) (hi:PE X i ty) (hs:NoSl i):PE X (.Subscript o i pos) (tNGet X.prog X.w td ty):=by
 intro pins s σ H Q I h;refine G7 PySem.F.slot_dict_getitem.lookup hs (thn (ho pins s σ H _ I h) λu s1 ⟨x,H1,I1,rx,q1⟩=>thn (hi pins s1 σ H1 _ I1 q1) λiv s2 ⟨y,H2,I2,ry,a,v,ex,g,q2⟩=>?_);subst ex;obtain rfl:u=Value.ref a:=rx;obtain ⟨kvs,k,b,nd,rfl,hk,l⟩:=g;cases ry
 obtain ⟨xs,rel,dd⟩:=Ln I2.hok nd;obtain ⟨w',hw,rw'⟩:=mh.some_of (v:=v) (o:=(atKey xs k).map (·.2)) (by rw[l];exact Ef rel k);obtain ⟨p,hp,hp2⟩:=Option.map_eq_some_iff.mp hw;refine ⟨dd.typeIs,wpAny_getItem_heap (show (ir X.prog X.w).room X.A.in1 from by show X.A.units+1+1 < cLine;omega) (sr I2.hok hk) dd hp ?_⟩;rw[hp2];exact ⟨v,H2,I2.tok _,rw',q2⟩
theorem pc_nin (hu:X.A.units+8 < cLine) (hi:PE X i ty) (ho:PE X o td):PC X .In i o (tNIn X.prog X.w ty td):=by
 intro pins s σ H Q I h;refine thn (hi pins s σ H _ I h) λiv s1 ⟨y,H1,I1,ry,q1⟩=>thn (ho pins s1 σ H1 _ I1 q1) λu s2 ⟨x,H2,I2,rx,a,ov,ex,g,q2⟩=>?_;subst ex;obtain rfl:u=Value.ref a:=rx;obtain ⟨kvs,k,b,nd,rfl,hk,l⟩:=g;cases ry
 obtain ⟨xs,rel,dd⟩:=Ln I2.hok nd;refine wpAny_in_heap (show (ir X.prog X.w).room X.A.in1 from by show X.A.units+1+1 < cLine;omega) (sr I2.hok hk) nd.1 dd ?_;have q:=(Ef rel k).gb;rw[aci] at q;rw[←q,←l];exact ⟨.bl ov.isSome,H2,I2.tok _,rfl,q2⟩
theorem Oo (hu:X.A.units+8 < cLine) (ho:PE X o td) (hi:PE X i ty) (hv:PE X value tv) (hs:swapsWith value (some (.Subscript o i pos')) pos.line X.env=pure false):
  PS X (.Assign [.Subscript o i pos'] value pos) (Jl X.prog X.w td ty tv):=by
 intro pins s σ H D I h;refine wpAny_Assign_Subscript (thn (hv pins s σ H _ I h) λr s1 ⟨v,H1,I1,rv,q1⟩=>thn (ho pins s1 σ H1 _ I1 q1) λu s2 ⟨x,H2,I2,rx,q2⟩=>thn (hi pins s2 σ H2 _ I2 q2) λiv s3 ⟨y,H3,I3,ry,a,kvs,k,b,ex,nd,ey,hk,hl,q3⟩=>?_) hs;subst ex ey;obtain rfl:u=Value.ref a:=rx;cases ry
 obtain ⟨xs,rel,dd⟩:=Ln I3.hok nd;have hz:xs.length≤sizeLine:=by rw[←Paired.length rel];exact nd.2.1
 refine wpAny_setItem_heap (hsz:=hz) (show (ir X.prog X.w).room X.A.in1 from by show X.A.units+1+1 < cLine;omega) (sr I3.hok hk) dd λh' dd' hs'=>?_;obtain ⟨q,es,ep,hq,h2,h3,h4,_,h5⟩:=dd';obtain ⟨φ,eφ⟩:=nd.ex;have far:∀c u,c≠a→H3 c=some u→upd H3 a (NDo X.prog X.w a (storedH xs k b r)) c=some u:=λc u hc e=>by rw[ag hc];exact e
 refine ⟨σ,upd H3 a (NDo X.prog X.w a (storedH xs k b r)),sg I3 (by rw[eφ];exact True.intro) hs' ⟨q,hq⟩ ⟨⟨q,es,ep,hq,h2,h3,h4,h5⟩,⟨q,hq⟩,?_⟩,q3 _ far ⟨nd.1,?_,_,ae,?_⟩⟩
 ·rintro h1 h6 ⟨o',es',ep',g1,g2⟩ g3;exact ⟨o',es',ep',g3 _ g1,g2⟩
 ·have:=gd kvs k v;omega
 ·exact Paired.mapP (kn_put rel k hk rv) λ_ _ z=>⟨z.1,z.2.1.tk (nd.tup far),z.2.2⟩
theorem Oh:PE X (.Dict [] [] pos) (tNNew X.prog X.w):=λpins s σ H Q I h=>by
 have hf:H s.heap.objs.size=none:=I.hok.fresh (aa4 _);refine wpAny_Dict_empty ⟨.ref s.heap.objs.size,_,I.laid (a:=s.heap.objs.size) (o:=NDo X.prog X.w s.heap.objs.size []) (t':=s.toks) (λ_ _ q=>Heap.get?_push_of_some _ q) (aa4 _) ⟨⟨_,#[],0,Heap.get?_push_size _ rfl,⟨rfl,rfl,rfl⟩,rfl,rfl,aca⟩,⟨_,Heap.get?_push_size _ rfl⟩,?_⟩,rfl,h _ _ hf (aa hf _) ⟨beq_eq_false_iff_ne.mpr (Ne.symm (aao I.big)),aa7 _,[],ae,.nil⟩⟩;rintro h1 h6 ⟨o',es',ep',g1,g2⟩ g3;exact ⟨o',es',ep',g3 _ g1,g2⟩
end
end L2
namespace Pc
open PySem PySem.Spec L2 PyProof.Rows Fm
noncomputable def subs:List Str→List (List Str)
 | []=>[[]]
 | x::r=>subs r++(subs r).map (x::·)
theorem Ay:∀l:List Str,(subs l).length=2 ^ l.length
 | []=>rfl
 | x::r=>by
  show (subs r++(subs r).map (x::·)).length=2 ^ (r.length+1)
  rw[aa2,aa1,Ay r,Nat.pow_succ];omega
theorem vq:∀{l m:List Str},l.Sublist m→l∈subs m
 | _,_,.slnil=>List.mem_singleton.mpr rfl
 | _,_,.cons x h=>abv _ (vq h)
 | _,_,.cons_cons x h=>aau _ (List.mem_map.mpr ⟨_,vq h,rfl⟩)
theorem M7 {kinds l:List Str} (kn:kinds.Nodup) (ln:l.Nodup) (h:∀z∈l,z∈kinds):(az l).Sublist (az kinds):=by
 have e:(az kinds).filter (λz=>decide (z∈l))=az l:=by
  refine Bn ((List.perm_ext_iff_of_nodup ((jb kn).sublist acq) ln).mpr λz=>?_) (List.Pairwise.sublist acq (o9 (linS.pre id) kinds));rw[List.mem_filter,decide_eq_true_eq,gp];exact ⟨λx=>x.2,λx=>⟨h z x,x⟩⟩
 rw[←e];exact acq
theorem lq {α:Type} [DecidableEq α]:∀(l hs:List α),l.Nodup→(∀x∈l,x∈hs)→l.length≤hs.length
 | [],_,_,_=>aa7 _
 | x::l,hs,nd,sub=>by
  obtain ⟨h1,h2⟩:=List.nodup_cons.mp nd;have hx:=sub x aa9;have h3:=lq l (hs.erase x) h2 λy hy=>(List.mem_erase_of_ne (λe:y=x=>h1 (by rw[←e];exact hy))).mpr (sub y (aab _ hy));rw[List.length_erase_of_mem hx] at h3;have:=List.length_pos_of_mem hx;rw[aai];omega
theorem sx {α β:Type} (f:α→List β) (n:Nat):∀(l:List α),(∀x∈l,(f x).length=n)→(l.flatMap f).length=l.length*n
 | [],_=>by rw[List.flatMap_nil];simp
 | x::l,h=>by
  rw[List.flatMap_cons,aa2,h x aa9,sx f n l λy hy=>h y (aab _ hy),aai,Nat.succ_mul];omega
structure KOk (kinds:List Str) (ws:List V) (p:Nat) (kd:Str) (bs:List Str):Prop where
 pl:p < ws.length
 km:kd∈kinds
 no:kd∉bs
 ba:bs.Sublist (az kinds)
structure j6 (g:Ky→Option Int) (p:Nat) (kd:Str) (bs:List Str) (v:Int):Prop where
 ge:0≤v
 low:0 < v→∃x,g (p,kd)=some x∧x≤v
 ex:∀x,g (p,kd)=some x→(∀z∈bs,∃y,g (p,z)=some y∧x < y)→v=x
def EntOk (kinds:List Str) (ws:List V) (g:Ky→Option Int) (e:NK×V):Prop:=∃(p:Nat) (kd:Str) (bs:List Str) (v:Int),e=(((p:Int),kd,bs),V.int v)∧KOk kinds ws p kd bs∧j6 g p kd bs v
noncomputable def allK (kinds:List Str) (ws:List V):List NK:=(aaq ws.length).flatMap λ(p:Nat)=>kinds.flatMap λkd=>(subs (az kinds)).map λbs=>(((p:Int),kd,bs):NK)
theorem L7 (kinds:List Str) (ws:List V):(allK kinds ws).length=ws.length*(kinds.length*2 ^ kinds.length):=by
 unfold allK;rw[sx _ (kinds.length*2 ^ kinds.length),aby];intro p _;rw[sx _ (2 ^ kinds.length)];intro kd _;rw[aa1,Ay,fw]
structure Known (P:Program) (w:World) (kinds:List Str) (ws:List V) (g:Ky→Option Int) (d:Addr) (H:Hp) (kvs:List (NK×V)):Prop where
 nd:ND P w H d kvs
 un:(kvs.map (·.1)).Nodup
 all:∀e∈kvs,EntOk kinds ws g e
theorem Known.len {P:Program} {w:World} {kinds:List Str} {ws:List V} {g:Ky→Option Int} {d:Addr} {H:Hp} {kvs:List (NK×V)} (h:Known P w kinds ws g d H kvs) (hk:kinds.length≤8) (hw:ws.length≤1000):kvs.length≤2048000:=by
 have h1:=lq (kvs.map (·.1)) (allK kinds ws) h.un λx hx=>by
  obtain ⟨e,he,rfl⟩:=List.mem_map.mp hx;obtain ⟨p,kd,bs,v,rfl,ko,_⟩:=h.all e he;exact List.mem_flatMap.mpr ⟨p,List.mem_range.mpr ko.pl,List.mem_flatMap.mpr ⟨kd,ko.km,List.mem_map.mpr ⟨bs,vq ko.ba,rfl⟩⟩⟩
 rw[aa1,L7] at h1;have h2:2 ^ kinds.length≤2 ^ 8:=Nat.pow_le_pow_right (by decide) hk;have h3:ws.length*(kinds.length*2 ^ kinds.length)≤1000*(8*2 ^ 8):=ad2 hw (ad2 hk h2);omega
theorem Known.at {P:Program} {w:World} {kinds:List Str} {ws:List V} {g:Ky→Option Int} {d:Addr} {H H':Hp} {kvs:List (NK×V)} (h:Known P w kinds ws g d H kvs) (s:ah H H'):Known P w kinds ws g d H' kvs:=⟨h.nd.at (λb xs e=>s _ _ e) λo e=>s _ _ e,h.un,h.all⟩
theorem Known.val {P:Program} {w:World} {kinds:List Str} {ws:List V} {g:Ky→Option Int} {d:Addr} {H:Hp} {kvs:List (NK×V)} (h:Known P w kinds ws g d H kvs) {p:Nat} {kd:Str} {bs:List Str} {y:V} (e:cu kvs ((p:Int),kd,bs)=some y):∃v,y=.int v∧j6 g p kd bs v:=by
 have:∀{l:List (NK×V)},(∀e∈l,EntOk kinds ws g e)→cu l ((p:Int),kd,bs)=some y→∃v,y=.int v∧j6 g p kd bs v:=by
  intro l;induction l with
  | nil=>intro _ z;cases z
  | cons a l ih=>
   intro hl z;by_cases c:a.1=((p:Int),kd,bs)
   ·rw[bw c] at z;cases z
    obtain ⟨p',kd',bs',v,rfl,_,gv⟩:=hl a aa9;simp only[Prod.mk.injEq] at c;obtain ⟨c1,rfl,rfl⟩:=c;obtain rfl:p'=p:=by omega
    exact ⟨v,rfl,gv⟩
   ·rw[bu c] at z;exact ih (λe he=>hl e (aab _ he)) z
 exact this h.all e
theorem Rg {κ:Type} [DecidableEq κ] {kvs:List (κ×V)} {k:κ} {v:V} {e:κ×V} (h:e∈putK kvs k v):e=(k,v)∨e∈kvs:=by
 unfold putK at h;split at h
 ·obtain ⟨a,ha,rfl⟩:=List.mem_map.mp h;by_cases c:a.1=k
  ·rw[if_pos c,c];exact .inl rfl
  ·rw[if_neg c];exact .inr ha
 ·rcases List.mem_append.mp h with h | h
  ·exact .inr h
  ·exact .inl (List.mem_singleton.mp h)
theorem Known.put {P:Program} {w:World} {kinds:List Str} {ws:List V} {g:Ky→Option Int} {d:Addr} {H H':Hp} {kvs:List (NK×V)} (h:Known P w kinds ws g d H kvs) {p:Nat} {kd:Str} {bs:List Str} {v:Int} (ko:KOk kinds ws p kd bs) (gv:j6 g p kd bs v) (n:ND P w H' d (putK kvs ((p:Int),kd,bs) (.int v))):Known P w kinds ws g d H' (putK kvs ((p:Int),kd,bs) (.int v)):=
 ⟨n,nd_put _ h.un,λe he=>by
  rcases Rg he with rfl | he
  ·exact ⟨p,kd,bs,v,rfl,ko,gv⟩
  ·exact h.all e he⟩
theorem Known.new {P:Program} {w:World} {kinds:List Str} {ws:List V} {g:Ky→Option Int} {d:Addr} {H:Hp} (n:ND P w H d []):Known P w kinds ws g d H []:=⟨n,aca,λ_ h=>nomatch h⟩
noncomputable def mu (kinds:List Str) (ws:List V) (p:Nat) (bs:List Str):Nat:=(ws.length - p - 1)*kinds.length+(kinds.length - bs.length)
theorem KOk.len {kinds:List Str} {ws:List V} {p:Nat} {kd:Str} {bs:List Str} (kn:kinds.Nodup) (h:KOk kinds ws p kd bs):bs.length < kinds.length:=by
 have nd:(kd::bs).Nodup:=List.nodup_cons.mpr ⟨h.no,(jb kn).sublist h.ba⟩;have:=lq (kd::bs) kinds nd λx hx=>by
  rcases List.mem_cons.mp hx with e | hx
  ·rw[e];exact h.km
  ·exact gp.mp (h.ba.subset hx)
 rw[aai] at this;omega
theorem mu_pos {kinds:List Str} {ws:List V} {p:Nat} {kd:Str} {bs:List Str} (kn:kinds.Nodup) (h:KOk kinds ws p kd bs):1≤mu kinds ws p bs:=by
 have:=h.len kn;unfold mu;omega
theorem Qq {kinds:List Str} {ws:List V} {p:Nat} {bs:List Str} (hp:p < ws.length):mu kinds ws p bs≤ws.length*kinds.length:=by
 unfold mu;have e:ws.length=ws.length - p - 1+(p+1):=by omega
 have h2:ws.length*kinds.length=(ws.length - p - 1)*kinds.length+(p+1)*kinds.length:=by rw[←Nat.add_mul,←e]
 have:kinds.length≤(p+1)*kinds.length:=Nat.le_mul_of_pos_left _ (by omega);omega
theorem Ld {kinds:List Str} {ws:List V} {p:Nat} {kd:Str} {bs bs':List Str} (kn:kinds.Nodup) (h:KOk kinds ws p kd bs) (e:bs'.length=bs.length+1):mu kinds ws p bs' < mu kinds ws p bs:=by
 have:=h.len kn;unfold mu;omega
theorem mu_far {kinds:List Str} {ws:List V} {p q:Nat} {kd:Str} {bs:List Str} (kn:kinds.Nodup) (h:KOk kinds ws p kd bs) (hq:p < q) (hw:q < ws.length):mu kinds ws q [] < mu kinds ws p bs:=by
 have:=h.len kn;unfold mu;have:(ws.length - q - 1+1)*kinds.length≤(ws.length - p - 1)*kinds.length:=aeh _ (by omega);rw[Nat.add_mul] at this;simp only[acf];omega
def Free (g:Ky→Option Int) (p:Nat) (kd:Str) (bs:List Str) (hs:List Ky):Prop:=∀h∈hs,h.1=p→∃y,g h=some y∧∀z∈bs++[kd],∃y',g (p,z)=some y'∧y < y'
structure GoodW (g:Ky→Option Int) (p:Nat) (kd:Str) (bs:List Str) (own:Int) (hs:List Ky) (v:Int):Prop where
 ge:0≤v
 low:0 < v→∃c,cost g own hs=some c∧c≤v
 ex:∀c,cost g own hs=some c→Free g p kd bs hs→v=c
structure Way (g:Ky→Option Int) (p:Nat) (kd:Str) (bs:List Str) (own:Int) (hs:List Ky) (acc:Int) (rest:List Ky):Prop where
 pos:1≤acc
 low:∀c',cost g acc rest=some c'→∃c,cost g own hs=some c∧c≤c'
 ex:Free g p kd bs hs→cost g acc rest=cost g own hs
theorem Way.start {g:Ky→Option Int} {p:Nat} {kd:Str} {bs:List Str} {own:Int} {hs:List Ky} (h:1≤own):Way g p kd bs own hs own hs:=⟨h,λc' e=>⟨c',e,abr _⟩,λ_=>rfl⟩
theorem Way.done {g:Ky→Option Int} {p:Nat} {kd:Str} {bs:List Str} {own acc:Int} {hs:List Ky} (h:Way g p kd bs own hs acc []):GoodW g p kd bs own hs acc:=⟨by have:=h.pos;omega,λ_=>h.low acc rfl,λc e f=>by
 have:=h.ex f;rw[e] at this;exact aa3 this⟩
theorem Way.step {g:Ky→Option Int} {p:Nat} {kd:Str} {bs:List Str} {own acc v:Int} {hs rest:List Ky} {k:Ky} (h:Way g p kd bs own hs acc (k::rest)) (hk:k∈hs) {bs':List Str} (gv:j6 g k.1 k.2 bs' v) (hb:∀z∈bs',k.1=p∧z∈bs++[kd]) (hv:v≠0):Way g p kd bs own hs (acc+v) rest:=by
 have ge:=gv.ge;have hp:=h.pos;obtain ⟨x,hx,le⟩:=gv.low (by omega);refine ⟨by omega,λc' e=>?_,λf=>?_⟩
 ·obtain ⟨c'',h1,h2⟩:=mr (g':=g) (c':=acc+x) (λ_ _ v hv=>⟨v,hv,abr _⟩) (by omega) e;obtain ⟨c,h3,h4⟩:=h.low c'' (by rw[dz hx];exact h1);exact ⟨c,h3,by omega⟩
 ·rw[←h.ex f,dz hx];congr 2
  refine gv.ex x hx λz hz=>?_;obtain ⟨e1,e2⟩:=hb z hz;obtain ⟨y,hy,hl⟩:=f k hk e1;obtain rfl:x=y:=aa3 (hx.symm.trans hy);rw[e1];exact hl z e2
theorem Way.barred {g:Ky→Option Int} {p:Nat} {kd:Str} {bs:List Str} {own acc:Int} {hs rest:List Ky} (h:Way g p kd bs own hs acc rest) {k:Ky} (hk:k∈hs) (e:k.1=p) (hb:k.2∈bs++[kd]):GoodW g p kd bs own hs 0:=⟨abr _,λz=>absurd z (by decide),λc _ f=>by
 obtain ⟨y,hy,hl⟩:=f k hk e;obtain ⟨y',hy',lt⟩:=hl _ hb;rw[←e] at hy';obtain rfl:y=y':=aa3 (hy.symm.trans hy');omega⟩
theorem Way.none {g:Ky→Option Int} {p:Nat} {kd:Str} {bs:List Str} {own acc:Int} {hs rest:List Ky} {k:Ky} (pos:∀k v,g k=some v→1≤v) (h:Way g p kd bs own hs acc (k::rest)) (hk:k∈hs) {bs':List Str} (gv:j6 g k.1 k.2 bs' 0) (hb:∀z∈bs',k.1=p∧z∈bs++[kd]):GoodW g p kd bs own hs 0:=⟨abr _,λz=>absurd z (by decide),λc hc f=>by
 have e:=h.ex f;rw[hc] at e;obtain ⟨x,hx,_⟩:=i6 e;have:=gv.ex x hx λz hz=>by
  obtain ⟨e1,e2⟩:=hb z hz;obtain ⟨y,hy,hl⟩:=f k hk e1;obtain rfl:x=y:=aa3 (hx.symm.trans hy);rw[e1];exact hl z e2
 have:=pos _ _ hx;omega⟩
structure Bst (kinds:List Str) (rs:List Rl) (ws:List V) (g:Ky→Option Int) (p:Nat) (kd:Str) (bs:List Str) (i:Nat) (v:Int):Prop where
 ge:0≤v
 low:0 < v→∃x,g (p,kd)=some x∧x≤v
 ex:∀(j:Nat) (r:Rl) (u:Und) (c:Int),j < i→rs[j]?=some r→r.kind=kd→bo kinds ws r.shape p ⟨[],[],[]⟩=some u→cost g r.price (ip kinds (r,u))=some c→Free g p kd bs (ip kinds (r,u))→0 < v∧v≤c
section
variable {kinds:List Str} {rs:List Rl} {ws:List V} {g:Ky→Option Int} {p:Nat} {kd:Str} {bs:List Str} {i:Nat} {v v':Int} {r:Rl} {u:Und}
theorem Bst.start:Bst kinds rs ws g p kd bs 0 0:=⟨abr _,λz=>absurd z (by decide),λj _ _ _ h=>absurd h (aeb _)⟩
theorem Bst.skip (h:Bst kinds rs ws g p kd bs i v) (hr:rs[i]?=some r) (no:r.kind=kd→bo kinds ws r.shape p ⟨[],[],[]⟩=none):Bst kinds rs ws g p kd bs (i+1) v:=⟨h.ge,h.low,λj r' u c hj e1 e2 e3 e4 f=>by
 rcases ad0 j i with hj' | hj'
 ·exact h.ex j r' u c hj' e1 e2 e3 e4 f
 ·obtain rfl:j=i:=by omega
  obtain rfl:r=r':=aa3 (hr.symm.trans e1);rw[no e2] at e3;cases e3⟩
theorem Bst.step (T:Tbl (ee kinds rs ws) g) (hp:p < ws.length) (h:Bst kinds rs ws g p kd bs i v) (hr:rs[i]?=some r) (ek:r.kind=kd) (hu:bo kinds ws r.shape p ⟨[],[],[]⟩=some u) (gw:GoodW g p kd bs r.price (ip kinds (r,u)) v'):
  (0 < v'∧(v=0∨v' < v)→Bst kinds rs ws g p kd bs (i+1) v')∧(¬(0 < v'∧(v=0∨v' < v))→Bst kinds rs ws g p kd bs (i+1) v):=by
 have ge:=h.ge;have ge':=gw.ge;have one:∀c,cost g r.price (ip kinds (r,u))=some c→Free g p kd bs (ip kinds (r,u))→0 < v'∧v'≤c:=λc hc f=>by
  have e:=gw.ex c hc f;obtain ⟨x,hx,le⟩:=qz T hp (aaf hr) hu hc;have:=T.pos _ _ hx;omega
 refine ⟨λc=>⟨ge',λ_=>?_,λj r' u' c' hj e1 e2 e3 e4 f=>?_⟩,λc=>⟨ge,h.low,λj r' u' c' hj e1 e2 e3 e4 f=>?_⟩⟩
 ·obtain ⟨c0,h1,h2⟩:=gw.low c.1;obtain ⟨x,hx,le⟩:=qz T hp (aaf hr) hu h1;rw[ek] at hx;exact ⟨x,hx,by omega⟩
 ·rcases ad0 j i with hj' | hj'
  ·have:=h.ex j r' u' c' hj' e1 e2 e3 e4 f;omega
  ·obtain rfl:j=i:=by omega
   obtain rfl:r=r':=aa3 (hr.symm.trans e1);obtain rfl:u=u':=aa3 (hu.symm.trans e3);exact one c' e4 f
 ·rcases ad0 j i with hj' | hj'
  ·exact h.ex j r' u' c' hj' e1 e2 e3 e4 f
  ·obtain rfl:j=i:=by omega
   obtain rfl:r=r':=aa3 (hr.symm.trans e1);obtain rfl:u=u':=aa3 (hu.symm.trans e3);have:=one c' e4 f;omega
theorem Bst.done (bk:Bk kinds rs) (T:Tbl (ee kinds rs ws) g) (h:Bst kinds rs ws g p kd bs rs.length v):j6 g p kd bs v:=by
 refine ⟨h.ge,h.low,λx hx hb=>?_⟩;obtain ⟨ro,hro,h1,h2,h3⟩:=mj bk T hx;obtain ⟨nm,hn⟩:=je T hro;obtain ⟨j,r,u,r1,r2,r3,r4,r5⟩:=vt bk hro (adv hn);have h1:ro.place=p:=h1;have h2:ro.kind=kd:=h2;rw[h1] at r4;rw[h2] at r3;rw[h3] at r5;have lt:=yk T.pos (bk.pr r (aaf r1)) r5;have:=h.ex j r u x (List.getElem?_eq_some_iff.mp r1).1 r1 r3 r4 r5 λk hk ep=>by
  obtain ⟨y,hy,l⟩:=lt k hk;refine ⟨y,hy,λz hz=>?_⟩;rcases List.mem_append.mp hz with hz | hz
  ·obtain ⟨y',hy',l'⟩:=hb z hz;exact ⟨y',hy',by omega⟩
  ·rw[List.mem_singleton.mp hz];exact ⟨x,hx,l⟩
 obtain ⟨x',hx',le⟩:=h.low this.1;obtain rfl:x=x':=aa3 (hx.symm.trans hx');omega
end
def lr (P:Program) (w:World) (n:Nat):Sp:=λvs H Q _=>∃(b wt et ka d:Addr) (kinds:List Str) (rs:List Rl) (ws:List V) (g:Ky→Option Int) (p:Nat) (kd:Str) (bs:List Str) (kvs:List (NK×V)),vs=[.ref b,.ref wt,.ref et,.ref ka,.ref d]∧bh H b kinds rs∧H wt=some (.tup ws)∧H et=some (.lst ((aaq ws.length).map λq=>plV (endAt ws q)))∧oq H ka ((p:Int),kd,bs)∧Bk kinds rs∧Tw ws∧Tbl (ee kinds rs ws) g∧KOk kinds ws p kd bs∧mu kinds ws p bs≤n∧Known P w kinds ws g d H kvs∧∀(v:Int) (kvs':List (NK×V)) (H':Hp),ao d H H'→Known P w kinds ws g d H' kvs'→j6 g p kd bs v→Q (.int v) H'
theorem Ep {P:Program} {w:World} {n:Nat} {b wt et ka d:Addr} {kinds:List Str} {rs:List Rl} {ws:List V} {g:Ky→Option Int} {p:Nat} {kd:Str} {bs:List Str} {kvs:List (NK×V)} {H:Hp} {Q:VK} {E:XK} (p0:bh H b kinds rs) (p1:H wt=some (.tup ws)) (p2:H et=some (.lst ((aaq ws.length).map λq=>plV (endAt ws q)))) (p3:oq H ka ((p:Int),kd,bs)) (p4:Bk kinds rs) (p5:Tw ws) (p6:Tbl (ee kinds rs ws) g) (p7:KOk kinds ws p kd bs) (p8:mu kinds ws p bs≤n) (p9:Known P w kinds ws g d H kvs) (p10:∀(v:Int) (kvs':List (NK×V)) (H':Hp),ao d H H'→Known P w kinds ws g d H' kvs'→j6 g p kd bs v→Q (.int v) H'):lr P w n [.ref b,.ref wt,.ref et,.ref ka,.ref d] H Q E:=⟨b,wt,et,ka,d,kinds,rs,ws,g,p,kd,bs,kvs,rfl,p0,p1,p2,p3,p4,p5,p6,p7,p8,p9,p10⟩
theorem qt {P:Program} {w:World} {vs:List V} {H:Hp} {Q:VK} {E:XK} (h:lr P w 0 vs H Q E):False:=by
 obtain ⟨b,wt,et,ka,d,kinds,rs,ws,g,p,kd,bs,kvs,_,_,_,_,_,bk,_,_,ko,hm,_⟩:=h;have:=mu_pos bk.kn ko;omega
def Aj (P:Program) (w:World) (n:Nat):Sp:=λvs H Q _=>∃(b wt et ka ra sp d:Addr) (kinds:List Str) (rs:List Rl) (ws:List V) (g:Ky→Option Int) (p:Nat) (kd:Str) (bs:List Str) (r:Rl) (u:Und) (kvs:List (NK×V)),vs=[.ref b,.ref wt,.ref et,.ref ka,.ref ra,.ref sp,.ref d]∧bh H b kinds rs∧H wt=some (.tup ws)∧H et=some (.lst ((aaq ws.length).map λq=>plV (endAt ws q)))∧oq H ka ((p:Int),kd,bs)∧gj H ra r∧H sp=some (.tup (u.hs.map plV))∧Bk kinds rs∧Tw ws∧Tbl (ee kinds rs ws) g∧KOk kinds ws p kd bs∧mu kinds ws p bs≤n+1∧r∈rs∧bo kinds ws r.shape p ⟨[],[],[]⟩=some u∧Known P w kinds ws g d H kvs∧∀(v:Int) (kvs':List (NK×V)) (H':Hp),ao d H H'→Known P w kinds ws g d H' kvs'→GoodW g p kd bs r.price (ip kinds (r,u)) v→Q (.int v) H'
theorem Qz {P:Program} {w:World} {n:Nat} {b wt et ka ra sp d:Addr} {kinds:List Str} {rs:List Rl} {ws:List V} {g:Ky→Option Int} {p:Nat} {kd:Str} {bs:List Str} {r:Rl} {u:Und} {kvs:List (NK×V)} {H:Hp} {Q:VK} {E:XK} (p0:bh H b kinds rs) (p1:H wt=some (.tup ws)) (p2:H et=some (.lst ((aaq ws.length).map λq=>plV (endAt ws q)))) (p3:oq H ka ((p:Int),kd,bs)) (p4:gj H ra r) (p5:H sp=some (.tup (u.hs.map plV))) (p6:Bk kinds rs) (p7:Tw ws) (p8:Tbl (ee kinds rs ws) g) (p9:KOk kinds ws p kd bs) (pa:mu kinds ws p bs≤n+1) (pb:r∈rs) (pc:bo kinds ws r.shape p ⟨[],[],[]⟩=some u) (pd:Known P w kinds ws g d H kvs) (pe:∀(v:Int) (kvs':List (NK×V)) (H':Hp),ao d H H'→Known P w kinds ws g d H' kvs'→GoodW g p kd bs r.price (ip kinds (r,u)) v→Q (.int v) H'):Aj P w n [.ref b,.ref wt,.ref et,.ref ka,.ref ra,.ref sp,.ref d] H Q E:=⟨b,wt,et,ka,ra,sp,d,kinds,rs,ws,g,p,kd,bs,r,u,kvs,rfl,p0,p1,p2,p3,p4,p5,p6,p7,p8,p9,pa,pb,pc,pd,pe⟩
theorem tbl_ex {κ:Type} [DecidableEq κ] {F:List (Ft κ)} (own:∀f∈F,1≤f.own):∃g,Tbl F g:=by
 obtain ⟨μ,Ok,h0,h1,h2⟩:=ends (g0:=λ_=>none) (λk v h=>nomatch h) own ⟨0,λk v h=>nomatch h⟩;have go:∀(n:Nat) (g:κ→Option Int),μ g≤n→Ok g→Due F g→∃g',Tbl F g':=by
  intro n;induction n with
  | zero=>
   intro g hn ok du;refine ⟨g,λf hf c hc=>?_,du,h1 g ok⟩;cases e:g f.key with
   | none=>
    have:=(h2 g f c ok hf hc (.inl e)).2;omega
   | some v=>
    by_cases l:v≤c
    ·exact ⟨v,rfl,l⟩
    ·have:=(h2 g f c ok hf hc (.inr ⟨v,e,by omega⟩)).2;omega
  | succ n ih=>
   intro g hn ok du;by_cases st:kb F g
   ·exact ⟨g,st,du,h1 g ok⟩
   ·obtain ⟨f,hf,c,hc,im⟩:∃f∈F,∃c,cost g f.own f.hs=some c∧Imp g f.key c:=Classical.byContradiction λno=>st λf hf c hc=>by
     cases e:g f.key with
     | none=>exact absurd ⟨f,hf,c,hc,.inl e⟩ no
     | some v=>
      by_cases l:v≤c
      ·exact ⟨v,rfl,l⟩
      ·exact absurd ⟨f,hf,c,hc,.inr ⟨v,e,by omega⟩⟩ no
    obtain ⟨ok',lt⟩:=h2 g f c ok hf hc im;exact ih _ (by omega) ok' (Pt du hf hc im)
 exact go _ _ (aa4 _) h0 λk v h=>nomatch h
theorem Bk.take {kinds:List Str} {rs:List Rl} (h:Bk kinds rs) (m:Nat):Bk kinds (rs.take m):=
 ⟨h.kd,h.nd.sublist ((ad4 m rs).map _),λr hr=>h.sh r (aba hr),by rw[aav];have:=h.len;omega,h.kn,h.kl,λr hr=>h.pr r (aba hr),λr hr=>h.rk r (aba hr)⟩
theorem Fe {H:Hp} {ra:List Addr} {rs:List Rl} (h:cv H ra rs) (m:Nat):cv H (ra.take m) (rs.take m):=by
 refine ⟨by rw[aav,aav,h.1],λi r hi=>?_⟩;by_cases c:i < m
 ·rw[acb c] at hi ⊢;exact h.2 i r hi
 ·rw[ab9 (by rw[aav];omega)] at hi;cases hi
theorem Ic {xs:List V} {m:Nat}:ib xs none (some (m:Nat))=xs.take m:=by
 unfold ib;rw[HT.vb,HT.yn,aed,ace];by_cases c:m≤xs.length
 ·rw[ae8 c]
 ·rw[Nat.min_eq_right (by omega),abj,abe (by omega)]
theorem j6.none {g:Ky→Option Int} {p:Nat} {kd:Str} {v:Int} (h:j6 g p kd [] v):v=(g (p,kd)).getD 0:=by
 cases e:g (p,kd) with
 | none=>
  have:=h.ge;by_cases c:0 < v
  ·obtain ⟨x,hx,_⟩:=h.low c;rw[e] at hx;cases hx
  ·show v=0
   omega
 | some x=>exact h.ex x e λz hz=>nomatch hz
noncomputable def rw3 (r:Rw):List Key:=[.inl (r.place:Int),.inr r.kind,.inl r.price]
noncomputable def jy (g:Ky→Option Int) (p:Nat) (ks:List Str):List (List Key):=ks.filterMap λk=>(g (p,k)).map λv=>[.inl (p:Int),.inr k,.inl v]
noncomputable def lg (kinds:List Str) (g:Ky→Option Int) (i:Nat):List (List Key):=(aaq i).flatMap λp=>jy g p (az kinds)
theorem sy (kinds:List Str) (g:Ky→Option Int) (i:Nat):lg kinds g (i+1)=lg kinds g i++jy g i (az kinds):=by
 unfold lg;rw[ae9,aeq,List.flatMap_singleton]
theorem Dm (g:Ky→Option Int) (p:Nat) (ks:List Str) {j:Nat} {z:Str} (h:ks[j]?=some z):jy g p (ks.take (j+1))=jy g p (ks.take j)++((g (p,z)).map λv=>([.inl (p:Int),.inr z,.inl v]:List Key)).toList:=by
 unfold jy;rw[ab4,h,ade];congr 1
theorem L8 (kinds:List Str) (rs:List Rl) (ws:List V) (g:Ky→Option Int):(rowsOf kinds rs ws g).map rw3=lg kinds g ws.length:=by
 unfold rowsOf lg;rw[List.map_flatMap];congr 1
 funext p
 unfold c8 jy;rw[List.map_filterMap];congr 1
 funext k
 cases g (p,k) <;> rfl
theorem xw (g:Ky→Option Int) (p:Nat) (ks:List Str):(jy g p ks).length≤ks.length:=abm _ _
theorem wj (kinds:List Str) (g:Ky→Option Int) (hk:kinds.length≤8):∀i,(lg kinds g i).length≤8*i
 | 0=>aa7 _
 | i+1=>by
  rw[sy,aa2];have h1:=wj kinds g hk i;have h2:=xw g i (az kinds);rw[fw] at h2;omega
def ig (d e:Addr) (H H':Hp):Prop:=∀b o,b≠d→b≠e→H b=some o→H' b=some o
theorem ig.refl (d e:Addr) (H:Hp):ig d e H H:=λ_ _ _ _ h=>h
theorem ig.step {d e:Addr} {H H1 H2:Hp} (s:ig d e H H1) (t:ao d H1 H2):ig d e H H2:=λb o h1 h2 h=>t b o h1 (s b o h1 h2 h)
theorem ig.put {d e:Addr} {H H1:Hp} (s:ig d e H H1) (u:HO):ig d e H (upd H1 e u):=λb o h1 h2 h=>by rw[ag h2];exact s b o h1 h2 h
theorem ig.tup {d e:Addr} {H H':Hp} {φ:Heap→Prop} {xs:List V} (s:ig d e H H') (hd:H d=some (.ext φ)) (he:H e=some (.lst xs)):TK H H':=λb ys h=>s b _ (λz=>by rw[z,hd] at h;cases h) (λz=>by rw[z,he] at h;cases h) h
end Pc
namespace L2
open PySem PySem.Spec PyProof.Rows
section
variable {X:Cx} {v:Expr} {tv:TE} {p1 p2 pos:Pos} {c:Str} {j:Nat}
theorem Od (hv:PE X v tv) (hc:c.length≤100:=by decide+kernel):PE X (.JoinedStr [.Constant (.str c) j p2,.FormattedValue v 114 none p1] pos) (Bh tv):=by
 intro pins s σ H Q I h;refine wpAny_JoinedStr ?_;have e0:∀w:Str,(Str.empty++w).length=w.length:=λw=>by rw[strLen_append];exact ack _
 have sz:=sizeLine_eq;refine Calls.Constant_str ⟨c,_,rfl,by rw[e0];omega,?_⟩;refine wpAny_FormattedValue_repr (thn (hv pins _ σ H _ (I.tok _) h) λu s1 ⟨x,H1,I1,r1,z,e,ha,hz,q⟩=>?_);subst e;obtain ⟨t,rfl⟩:=r1;have hl:=StrLaws.reprText_len z λc hc=>ae0 (ha c hc) (by decide);refine pyReprObj_str ?_ (by omega);refine formatField_str (λt' tk=>⟨_,t',rfl,by rw[strLen_append,e0];omega,by rw[strLen_append,e0];omega,?_⟩) (by omega);exact ⟨.str _,H1,I1.tok _,⟨_,rfl⟩,q _⟩
end
section
variable {K:PySem.W.Frag} {h:Heap} {mg:Str→Option Value} {x:Str} {st:Stmt} {ps:List Str} {f:Addr} {oc kV dc pm cd ct:Value} {od an:Option Addr} {sl:Array (Option Value)}
def vm (x:Str) (st:Stmt) (ps:List Str):Prop:=∀(kV dc pm:Value) (an:Option Addr) (cd ct:Value) (us:List Value),us.length=ps.length→bindArgs (PySem.W.fnOf x x (dg st) (cg st) (ak st) .none kV dc pm an cd ct) ⟨us,[]⟩=pure (ps.zip us)
theorem bp (X:K.In h) (G:h.Ns mainGlobals mg) (b:vm x st ps) (a:PySem.W.nsIn K mainGlobals x=some (some (.ref f))) (l:K.lookup f=some ⟨oc,od,.func (PySem.W.fnOf x x (dg st) (cg st) (ak st) .none kV dc pm an cd ct),sl⟩) (c:PySem.W.codeIn K cd x=true) (k:PySem.W.keepIn K (.ref f)=true):Def K mg x st ps:=
 ⟨f,_,Em l c k,(Em l c k).binds b,PySem.W.mg_of X G a⟩
theorem law_mk {fa:Addr} {y:Str} (X:K.In h) (G:h.Ns mainGlobals mg) (hfa:mg x=some (.ref fa)) (b:∀(kV dc pm:Value) (an:Option Addr) (cd ct v:Value),bindArgs (PySem.W.fnOf x x (dg st) (cg st) (ak st) .none kV dc pm an cd ct) ⟨[v],[]⟩=pure [(y,v)]) (a:PySem.W.nsIn K mainGlobals x=some (some (.ref f))) (l:K.lookup f=some ⟨oc,od,.func (PySem.W.fnOf x x (dg st) (cg st) (ak st) .none kV dc pm an cd ct),sl⟩) (c:PySem.W.codeIn K cd x=true) (k:PySem.W.keepIn K (.ref f)=true):∃fd,Fun K x x st fa fd∧∀(s:Shared) (v:Value),BindsTo s fd ⟨[v],[]⟩ [(y,v)]:=by
 have e:=hfa.symm.trans (PySem.W.mg_of X G a);cases e
 exact ⟨_,Em l c k,λs v=>.of_eq (b kV dc pm an cd ct v)⟩
theorem ba1 (e:ps.length=1) (h:∀(kV dc pm:Value) (an:Option Addr) (cd ct a0:Value),bindArgs (PySem.W.fnOf x x (dg st) (cg st) (ak st) .none kV dc pm an cd ct) ⟨[a0],[]⟩=pure (ps.zip [a0])):vm x st ps:=λkV dc pm an cd ct us hl=>us1 (P:=λus=>bindArgs _ ⟨us,[]⟩=pure (ps.zip us)) (hl.trans e) (h kV dc pm an cd ct)
theorem ba2 (e:ps.length=2) (h:∀(kV dc pm:Value) (an:Option Addr) (cd ct a0 a1:Value),bindArgs (PySem.W.fnOf x x (dg st) (cg st) (ak st) .none kV dc pm an cd ct) ⟨[a0,a1],[]⟩=pure (ps.zip [a0,a1])):vm x st ps:=λkV dc pm an cd ct us hl=>us2 (P:=λus=>bindArgs _ ⟨us,[]⟩=pure (ps.zip us)) (hl.trans e) (h kV dc pm an cd ct)
theorem ba3 (e:ps.length=3) (h:∀(kV dc pm:Value) (an:Option Addr) (cd ct a0 a1 a2:Value),bindArgs (PySem.W.fnOf x x (dg st) (cg st) (ak st) .none kV dc pm an cd ct) ⟨[a0,a1,a2],[]⟩=pure (ps.zip [a0,a1,a2])):vm x st ps:=λkV dc pm an cd ct us hl=>us3 (P:=λus=>bindArgs _ ⟨us,[]⟩=pure (ps.zip us)) (hl.trans e) (h kV dc pm an cd ct)
theorem ba4 (e:ps.length=4) (h:∀(kV dc pm:Value) (an:Option Addr) (cd ct a0 a1 a2 a3:Value),bindArgs (PySem.W.fnOf x x (dg st) (cg st) (ak st) .none kV dc pm an cd ct) ⟨[a0,a1,a2,a3],[]⟩=pure (ps.zip [a0,a1,a2,a3])):vm x st ps:=λkV dc pm an cd ct us hl=>us4 (P:=λus=>bindArgs _ ⟨us,[]⟩=pure (ps.zip us)) (hl.trans e) (h kV dc pm an cd ct)
theorem ba5 (e:ps.length=5) (h:∀(kV dc pm:Value) (an:Option Addr) (cd ct a0 a1 a2 a3 a4:Value),bindArgs (PySem.W.fnOf x x (dg st) (cg st) (ak st) .none kV dc pm an cd ct) ⟨[a0,a1,a2,a3,a4],[]⟩=pure (ps.zip [a0,a1,a2,a3,a4])):vm x st ps:=λkV dc pm an cd ct us hl=>us5 (P:=λus=>bindArgs _ ⟨us,[]⟩=pure (ps.zip us)) (hl.trans e) (h kV dc pm an cd ct)
theorem ba7 (e:ps.length=7) (h:∀(kV dc pm:Value) (an:Option Addr) (cd ct a0 a1 a2 a3 a4 a5 a6:Value),bindArgs (PySem.W.fnOf x x (dg st) (cg st) (ak st) .none kV dc pm an cd ct) ⟨[a0,a1,a2,a3,a4,a5,a6],[]⟩=pure (ps.zip [a0,a1,a2,a3,a4,a5,a6])):vm x st ps:=λkV dc pm an cd ct us hl=>usS (P:=λus=>bindArgs _ ⟨us,[]⟩=pure (ps.zip us)) (hl.trans e) λb0 us hl0=>usS (P:=λus=>bindArgs _ ⟨b0::us,[]⟩=pure (ps.zip (b0::us))) hl0 λb1 us hl1=>us5 (P:=λus=>bindArgs _ ⟨b0::b1::us,[]⟩=pure (ps.zip (b0::b1::us))) hl1 (h kV dc pm an cd ct b0 b1)
end
end L2
namespace L2
open PySem PySem.Spec PyProof.Rows Pc
def XcIn (K:PySem.W.Frag) (mg:Str→Option Value) (x:Str) (e:Addr) (bm:List Value):Prop:=mg x=some (.ref e)∧Xc K e bm
theorem K9 {K:PySem.W.Frag} {h:Heap} {mg:Str→Option Value} {x:Str} {C:Addr} {bm:List Value} {nm q:Str} {N:Addr} {bs:List Value} {sn:List Str} {sub:List Value} {ab:Bool} {col:Option Bool} {dd:Option Addr} {k0 k1 k2 k3 k5:Option Value} (X:K.In h) (G:h.Ns mainGlobals mg)
  (hb:bm=vbm∨∃D,bm=.ref D::vbm) (a:PySem.W.nsIn K mainGlobals x=some (some (.ref C))) (lk:K.lookup C=some (excClassObj nm q C N bs bm true sn sub ab col dd k0 k1 k2 k3 k5 "ValueError.__new__")) (kp:PySem.W.keepIn K (.ref C)=true) (fs:PySem.W.findIn K (.ref C) "__setattr__"=some (some (.builtin "object.__setattr__")))
  (fg:PySem.W.findIn K (.ref C) "__getattribute__"=some (some (.builtin "BaseException.__getattribute__"))) (fh:PySem.W.findIn K (.ref C) "__getattr__"=some none) (fc:PySem.W.findIn K (.ref C) "__class__"=some (some (.builtin "object.__class__"))):XcIn K mg x C bm:=
 ⟨PySem.W.mg_of X G a,Xc.mk' lk kp fs fg fh fc hb⟩
end L2
namespace K54
open PySem PySem.Spec L2 PyProof.Rows Pc
set_option hygiene false
set_option compiler.extract_closed false
local macro_rules | `(tactic| push_cast [$xs,*])=>`(tactic| simp only [↓Jc,↓Pq,↓O7,↓Nz,↓exists_eq_left,↓exists_eq_left',↓int_ex,↓ref_ex,↓bl_ex,↓Rf,m6,Aq,rID,rUD,tBD,Ez,yf,M1,Lv,tSeq,tIfS,tRet,tRetN,tNext,tVar,tC,Cv,tB,tOp,tUn,rI,rI0,rU,rEq,rNe,Az,tCB,B2,tNil,tAnd,tOr,tNot,tAndV,tOrV,tNotV,tIf,cb,tAsg,tBM,tBM0,tSl,Gf,M4,rSlS,rSlL,tLst,tTup,tDrop,tNoIf,iStr,iList,iTup,iRng1,iRng2,tLC,Kt,vv,List.set_cons_zero,List.set_cons_succ,List.getElem?_cons_zero,List.getElem?_cons_succ,Option.some.injEq,V.int.injEq,V.str.injEq,V.bl.injEq,V.ref.injEq,List.cons.injEq,exists_eq_left,exists_eq_left',exists_eq_right,exists_eq_right',exists_and_left,exists_and_right,and_true,true_and,List.cons_append,List.nil_append,List.append_nil,reduceCtorEq,false_and,exists_false,false_or,or_false,decide_eq_true_eq,eq_self,if_true,if_false,Bool.false_eq_true,Bool.true_eq_false,cxOf_K,cxOf_P,cxOf_w,Rc,cxOf_b,List.map_cons,List.map_nil,Option.getD_some,Option.getD_none,exists_const,nox_K,and_assoc,exists_eq,exists_eq',V.ty.injEq,tVals,Int.reduceLT,Int.reduceLE,Int.reduceNeg,Int.reducePow,Nat.reduceLT,Nat.reduceLeDiff,Pb,O1,om,tCallV,tDIn,G9,tDGet,iRev,tDNewK,sDPut,and_self,exists_prop,$xs,*])
set_option hygiene true
set_option compiler.extract_closed true
noncomputable def top (i:Nat):Stmt:=PySem.Challenge.pw_pricecover_k54_whole_all_ways_tried.main.body.getD i (.Pass ⟨0,0,0,0⟩)
structure ErS (K:PySem.W.Frag) (mg:Str→Option Value) (κ:Cl):Prop where
 m_cov:mg "CoverError"=some (.ref κ.cov)
 m_badCover:mg "BadCover"=some (.ref κ.badCover)
 m_noCover:mg "NoCover"=some (.ref κ.noCover)
 x_cov:Xc K κ.cov vbm
 x_badCover:Xc K κ.badCover (cbm κ)
 x_noCover:Xc K κ.noCover (cbm κ)
structure Gs (w:World) (K:PySem.W.Frag) (mg:Str→Option Value) (κ:Cl):Prop where
 er:ErS K mg κ
 i_BadCover:PySem.W.findIn K (.ref κ.badCover) "__init__"=some (some (.builtin "ValueError.__init__"))
 i_NoCover:PySem.W.findIn K (.ref κ.noCover) "__init__"=some (some (.builtin "ValueError.__init__"))
 m_int:mg "int"=none
 m_isinstance:mg "isinstance"=none
 m_len:mg "len"=none
 m_list:mg "list"=none
 m_range:mg "range"=none
 m_reversed:mg "reversed"=none
 m_sorted:mg "sorted"=none
 m_str:mg "str"=none
 m_sum:mg "sum"=none
 m_tuple:mg "tuple"=none
 m_zip:mg "zip"=none
 m_PARTS_BELOW:∃a,mg "PARTS_BELOW"=some (.ref a)∧ModD w K a [(Sum.inr "add",.int 2),(Sum.inr "sub",.int 2),(Sum.inr "mul",.int 2),(Sum.inr "neg",.int 1)]
def Lf (K:PySem.W.Frag):Sp:=λvs H Q _=>∃(a:Addr) (ns:List Int),vs=[.ref a]∧SqL K H a (ns.map V.int)∧ns.length≤63∧∀H',Q (.bl true) H'
set_option hygiene false
local macro_rules
 | `(A0 $a)=>`(@pl _ $a _ _ rfl rfl (by decide))
 | `(A1 $a $b)=>`(@y8 _ _ _ _ _ $a $b rfl)
 | `(A2 $_)=>`(@Ll _ _ _ _)
 | `(A3 $_)=>`(@Mo _)
 | `(A4 $a $b)=>`(@Ka _ _ _ _ _ $a $b)
 | `(A5 $a $b $c)=>`(@pe_op _ _ _ _ _ _ _ _ $a $b $c)
 | `(A6 $a $b $c)=>`(@Mb _ _ $a _ _ _ _ $b rfl (ab1 rfl) $c rfl (.inl rfl))
 | `(A7 $a)=>`(@Ob _ _ _ $a)
 | `(A8 $a $b $c)=>`(@pe_ix _ _ _ _ _ _ _ $a $b $c (λ_ _=>rfl))
 | `(A9 $_)=>`(@nomark _ _ (by decide) (by decide))
 | `(AA $a $b $c $d)=>`(@Cj _ _ _ _ _ _ _ _ $a $b $c $d)
 | `(AB $a $b $c)=>`(@ps_if _ _ _ _ _ _ _ _ $a $b $c)
 | `(AC $a)=>`(@ps_ret _ _ _ _ $a)
 | `(AD $a)=>`(@pe_lst _ _ _ _ $a)
 | `(AE $_)=>`(@Q3 _)
 | `(AF $_)=>`(@Kl _)
 | `(AG $a $b $c)=>`(@pe_has _ _ _ _ _ _ _ _ _ _ $a $b $c rfl (by decide+kernel) rfl rfl)
 | `(AH $a)=>`(@pe_tup _ _ _ _ _ $a)
 | `(AI $a)=>`(@yq.str _ _ _ _ _ $a)
 | `(AJ $_)=>`(@Mg _ _ _ _)
 | `(AK $_)=>`(@P7 _)
 | `(AL $a $b $c)=>`(@Gn _ _ $a _ $b rfl $c (.inl rfl))
 | `(AM $_)=>`(@op_eq _)
 | `(AN $_)=>`(@Q9 _)
 | `(AO $a)=>`(@P4 _ _ _ _ $a rfl)
 | `(AQ $a $b $c $d $e $f)=>`(@pe_bm _ _ _ _ _ _ _ _ _ _ _ _ $a $b $c $d $e $f rfl rfl rfl rfl rfl)
 | `(AR $a $b $c $d)=>`(@Ly _ _ _ _ _ _ _ _ _ $a rfl $b $c $d (by decide) (by decide) rfl rfl)
 | `(AS $a $b)=>`(@Le _ _ _ _ _ $a $b rfl)
 | `(AT $_)=>`(@Km _)
 | `(AU $_)=>`(@xo _)
 | `(AV $a)=>`(@pk _ $a _ _ rfl rfl (by decide))
 | `(AW $_)=>`(@F0 _)
 | `(AX $_)=>`(@wd _)
 | `(AY $a $b $c)=>`(@Et _ _ _ _ _ _ _ _ PassesOwn.never rfl $a $b $c (by intro _;rfl))
 | `(AZ $a $b $c $d)=>`(@Hj _ _ _ _ _ _ _ _ _ $a rfl $b $c $d (by decide) (by decide) rfl rfl)
 | `(B0 $_)=>`(@O8 _)
 | `(B7 $a $b)=>`(@Gn _ _ $a _ $b rfl (ab1 rfl) (.inr rfl))
 | `(B8 $a)=>`(@PW.pt _ _ _ $a)
 | `(BA $_)=>`(@uz _)
 | `(BB $_)=>`(@op_gtD _)
 | `(BC $a $b)=>`(@Oz _ _ _ _ _ $a $b)
 | `(BD $a)=>`(@Mr _ _ _ $a)
 | `(BE $_)=>`(@yq.nil)
 | `(BF $a $b)=>`(@pw_and _ _ _ _ _ _ _ $a $b)
 | `(BG $a $b $c)=>`(@Cj _ _ _ _ _ _ _ _ $a $b $c (by with_unfolding_all rfl))
 | `(BH $a)=>`(@Pp _ _ _ _ $a)
 | `(BI $a)=>`(@Q6 _ _ _ _ $a)
 | `(BJ $a)=>`(@pi_tup _ _ _ _ $a)
 | `(BK $a $b)=>`(@Pj _ _ _ _ _ _ $a $b)
 | `(BL $_)=>`(@wz _)
 | `(BN $a $b $c)=>`(@Qd _ _ _ _ _ _ $a $b $c (λ_ _=>rfl))
 | `(BO $a $b $c $d $e)=>`(@jt.mk _ _ $a $b $c _ rfl rfl rfl rfl $d rfl $e)
 | `(BP $_)=>`(@Om _)
 | `(BQ $_)=>`(@Dv _)
 | `(BR $_)=>`(@pe_bl _ _ _ _)
 | `(BS $a $b $c $d $e)=>`(@pe_lc _ _ _ _ _ _ _ _ _ _ _ _ _ _ _ $a rfl $b $c $d $e (by intro _;rfl))
 | `(BT $a)=>`(@yq.int _ _ _ _ _ $a)
 | `(BU $a $b)=>`(@Ih _ _ _ _ _ _ rfl $a $b rfl)
 | `(BV $a $b $c $d)=>`(@Jo _ _ _ _ _ _ _ _ _ _ $a $b $c $d)
 | `(BW $a)=>`(@L9 _ _ _ $a)
 | `(BX $a $b)=>`(@Dx _ _ _ _ _ $a rfl $b rfl rfl)
 | `(BY $a $b $c $d $e)=>`(@pe_bm0 _ _ _ _ _ _ _ _ _ $a $b $c $d $e rfl rfl)
 | `(BZ $a $b)=>`(@pe_gty _ _ _ _ $a $b rfl (by decide+kernel) (by decide+kernel))
 | `(C0 $a)=>`(@Ol _ _ _ $a (by intro _;rfl))
 | `(C3 $a $b)=>`(@Ar _ _ _ _ _ _ PassesOwn.never $a $b)
 | `(C4 $a $b $c $d)=>`(@y4 _ _ _ _ _ _ _ _ $a $b $c $d)
 | `(C7 $a)=>`(@Q8 _ _ _ _ _ $a)
 | `(C8 $a $b)=>`(@pw_or _ _ _ _ _ _ _ $a $b)
 | `(C9 $a $b)=>`(@pe_un _ _ _ _ _ _ $a $b)
 | `(CC $a $b $c $d $e)=>`(@Iw _ _ _ _ _ _ _ _ _ _ _ _ $a $b $c $d $e rfl (by decide+kernel) rfl rfl)
 | `(CF $a $b $c)=>`(@Mb _ _ $a _ _ _ _ $b rfl (ab2 rfl) $c rfl (.inl rfl))
 | `(CG $a $b $c)=>`(@L5 _ _ _ _ _ _ _ _ $a $b $c)
 | `(CH $a $b $c)=>`(@Ni _ _ _ _ _ _ _ _ _ $a $b $c)
 | `(CI $a $b $c)=>`(@O3 _ _ _ _ _ _ _ _ _ _ _ $a $b $c rfl (by decide+kernel) rfl rfl)
 | `(CJ $a $b)=>`(@ps_asg _ _ _ _ _ _ $a $b rfl rfl rfl)
set_option hygiene true
section
variable {P:Program} {w:World} {K:PySem.W.Frag} {mg:Str→Option Value} {base:Heap} {k:Nat} {κ:Cl}
noncomputable abbrev sHow:Stmt:=top 6
theorem scHow:av ["word"] ["word"] (ak sHow):=⟨rfl,rfl,rfl,by decide+kernel,rfl,by decide+kernel,by decide+kernel⟩
theorem hasHow (G:Gs w K mg κ) (D:Def K mg "how_many_below" sHow ["word"]):Has P w K mg base (k+1) "how_many_below" ["word"] xn:=by
 refine D.has scHow (λvs H Q E h=>?_) (λf cdv A outer s H vs Q E hr h=>?_)
 ·obtain ⟨_,rfl,_,_⟩:=h;rfl
 have nd:=scHow.nd;have hu:=b8 hr;have hu0:=aah hu;obtain ⟨v,rfl,hw,q⟩:=h;obtain ⟨a_PARTS_BELOW,m_PARTS_BELOW,s_PARTS_BELOW⟩:=G.m_PARTS_BELOW;refine ⟨_,(A7 (AC (@Js _ _ _ _ _ _ _ _ _ _ (@Qa _ _ _ _ m_PARTS_BELOW rfl (by decide+kernel)) s_PARTS_BELOW (A0 0) (A2 0) (@M2.mk _ _ _ _ _ _ _ rfl rfl rfl rfl)))),?_⟩;rw[show start ["word"] [v]=[some (v)] from rfl];clear hu hu0 nd hr;push_cast [J5];obtain ⟨k,rfl⟩:=hw;refine ⟨k,rfl,?_⟩;show Q ((cu parts k).getD (V.int 0)) H
 rw[Iq];exact q
noncomputable abbrev Ak:Stmt:=top 7
theorem Cf:av ["words","place","lacking","at"] ["words","place"] (ak Ak):=⟨rfl,rfl,rfl,by decide+kernel,rfl,by decide+kernel,by decide+kernel⟩
theorem Ij (G:Gs w K mg κ) (h_how_many_below:Has P w K mg base k "how_many_below" ["word"] xn) (D:Def K mg "place_behind" Ak ["words","place"]):Has P w K mg base (k+1) "place_behind" ["words","place"] (As K):=by
 refine D.has Cf (λvs H Q E h=>?_) (λf cdv A outer s H vs Q E hr h=>?_)
 ·obtain ⟨_,_,_,_,rfl,_,_,_,_,_⟩:=h;rfl
 have nd:=Cf.nd;have hu:=b8 hr;have hu0:=aah hu;obtain ⟨t,ws,p,n,rfl,hT,hw,hl,he,q⟩:=h;refine ⟨_,(A4 (A6 2 nd (A2 0)) (A4 (A6 3 nd (A0 1)) (A4 (C3 (AA (BB 0) (A0 2) (A2 0) (A9 0)) (A4 (A6 2 nd (A5 (AN 0) (A5 (B0 0) (A0 2) (A2 0)) (AG h_how_many_below hr (A1 (A8 (AF 0) (A0 0) (A0 3)) (A3 0))))) (A7 (A6 3 nd (A5 (AN 0) (A0 3) (A2 0)))))) (A7 (AC (A0 3)))))),?_⟩;rw[show start ["words","place","lacking","at"] [.ref t,.int (p:Int)]=[some (.ref t),some (.int (p:Int)),none,none] from rfl];clear hu hu0 nd hr;push_cast [xn];have hn:=qd _ _ _ he;rw[aa1,aan] at hn;refine j9 (λσ H'=>∃(d j:Nat),σ=[some (.ref t),some (.int (p:Int)),some (.int (d:Int)),some (.int ((p+j:Nat):Int))]∧H'=H∧j≤n∧eat d ((ws.drop (p+j)).map arV)=some (n - j))
  (λσ _=>p+n - intAt σ 3) ⟨1,0,rfl,rfl,aa7 _,he⟩ ?_ ?_
 ·rintro σ H' ⟨d,j,rfl,rfl,hj,hd⟩;push_cast [xn];refine bz (λc=>?_) λc=>?_
  ·obtain ⟨d',rfl⟩:∃d',d=d'+1:=⟨d - 1,by omega⟩;have hpos:=Aa _ _ _ hd;have hlt:p+j < ws.length:=by omega
   have ed:ws.drop (p+j)=ws[p+j]::ws.drop (p+j+1):=aax hlt;rw[ed,aaw,dm] at hd;obtain ⟨m,hm,em⟩:=Option.map_eq_some_iff.mp hd;refine ⟨t,ws,((p+j:Nat):Int),ws[p+j],rfl,rfl,hT,bg (aa0 hlt),hw _ (ab7 hlt),⟨d'+arV ws[p+j],by omega,j+1,by omega,rfl,by omega,?_⟩,?_⟩
   ·rw[show n - (j+1)=m by omega];exact hm
   ·show p+n - (((p+j:Nat):Int)+1).toNat < p+n - (((p+j:Nat):Int)).toNat
    omega
  ·have d0:d=0:=by omega
   subst d0;rw[kf] at hd;have:n - j=0:=(aa3 hd).symm;have e:((p+j:Nat):Int)=(p:Int)+(n:Int):=by omega
   rw[e];exact q H' (ah.refl _)
 ·intro σ H' Q1 Q2 hq h;simp only[Cv,tOp,rI0,i8,tC,jx,ij,tB] at h ⊢;obtain ⟨v,hv,i,j,e1,e2,k,e3,h⟩:=h;exact ⟨v,hv,i,j,e1,e2,k,e3,hq _ _ h⟩
noncomputable abbrev Me:Stmt:=top 9
theorem J0:av ["word","kinds"] ["word","kinds"] (ak Me):=⟨rfl,rfl,rfl,by decide+kernel,rfl,by decide+kernel,by decide+kernel⟩
theorem Oe (G:Gs w K mg κ) (D:Def K mg "leaf_letter" Me ["word","kinds"]):Has P w K mg base (k+1) "leaf_letter" ["word","kinds"] (ky K):=by
 refine D.has J0 (λvs H Q E h=>?_) (λf cdv A outer s H vs Q E hr h=>?_)
 ·obtain ⟨_,_,_,rfl,_,_,_⟩:=h;rfl
 have nd:=J0.nd;have hu:=b8 hr;have hu0:=aah hu;obtain ⟨v,kt,kinds,rfl,hv,hK,q⟩:=h;refine ⟨_,(A4 (AB (AA (AM 0) (A0 0) (AJ 0) (A9 0)) (A7 (AC (AJ 0))) (AK 0)) (A4 (AB (AA (AM 0) (A0 0) (AJ 0) (A9 0)) (A7 (AC (AJ 0))) (AK 0)) (A7 (AC (CG (BG (BL 0) (A0 0) (A0 1)) (AJ 0) (AJ 0)))))),?_⟩;rw[show start ["word","kinds"] [v,.ref kt]=[some (v),some (.ref kt)] from rfl];clear hu hu0 nd hr;push_cast [rIn];have fl:(kinds.map V.str).all il=true:=List.all_eq_true.mpr λx hx=>by obtain ⟨z,_,rfl⟩:=List.mem_map.mp hx;rfl
 unfold br g9 gm lN lV lH lO at q;refine ⟨hv.sc _,bz (λe=>?_) λn1=>⟨hv.sc _,bz (λe=>?_) λn2=>⟨_,.inr hK,hv.flat,fl,bz (λe=>?_) λe=>?_⟩⟩⟩
 ·rw[if_pos e] at q;exact q
 ·rw[if_neg n1,if_pos e] at q;exact q
 ·rw[if_neg n1,if_neg n2,if_pos e] at q;exact q
 ·rw[if_neg n1,if_neg n2,if_neg e] at q;exact q
noncomputable abbrev Nm:Stmt:=top 11
theorem M6:av ["letter","shape_word","word"] ["letter","shape_word","word"] (ak Nm):=⟨rfl,rfl,rfl,by decide+kernel,rfl,by decide+kernel,by decide+kernel⟩
theorem Qb (G:Gs w K mg κ) (h_how_many_below:Has P w K mg base k "how_many_below" ["word"] xn) (D:Def K mg "lies_upon" Nm ["letter","shape_word","word"]):Has P w K mg base (k+1) "lies_upon" ["letter","shape_word","word"] Er:=by
 refine D.has M6 (λvs H Q E h=>?_) (λf cdv A outer s H vs Q E hr h=>?_)
 ·obtain ⟨_,_,_,rfl,_,_,_⟩:=h;rfl
 have nd:=M6.nd;have hu:=b8 hr;have hu0:=aah hu;obtain ⟨l,v,x,rfl,hv,hx,q⟩:=h;have m_isinstance:=G.m_isinstance;have m_str:=G.m_str;refine ⟨_,(A4 (AB (AA (AM 0) (A0 0) (AJ 0) (A9 0)) (A7 (AC (BR 0))) (AK 0)) (A4 (AB (AA (AM 0) (A0 0) (AJ 0) (A9 0)) (A7 (AC (@pe_not _ _ _ _ (AR (@gg _) m_isinstance fj (A1 (A0 2) (A1 (BZ m_str Gz) (A3 0))))))) (AK 0)) (A4 (AB (AA (AM 0) (A0 0) (AJ 0) (A9 0)) (A7 (AC (@pe_and _ _ _ _ _ _ _ (AR (@gg _) m_isinstance fj (A1 (A0 2) (A1 (BZ m_str Gz) (A3 0)))) (@pe_one _ _ _ _ _ (C4 (AM 0) (AG h_how_many_below hr (A1 (A0 2) (A3 0))) (A2 0) (A9 0)))))) (AK 0)) (A7 (AC (C4 (AM 0) (A0 1) (A0 2) (A9 0))))))),?_⟩;rw[show start ["letter","shape_word","word"] [.str l,v,x]=[some (.str l),some (v),some (x)] from rfl];clear hu hu0 nd hr;push_cast [xn];unfold lies lH lN lV at q;refine ⟨rfl,bz (λe=>?_) λn1=>⟨rfl,bz (λe=>?_) λn2=>⟨rfl,bz (λe=>?_) λn3=>⟨hv.sc2 hx,?_⟩⟩⟩⟩
 ·rw[if_pos e] at q;exact q
 ·rw[if_neg n1,if_pos e] at q;obtain ⟨k',rfl⟩:=hx;cases k' with
  | inl i=>exact ⟨_,.int i,false,rfl,q⟩
  | inr z=>exact ⟨_,.str z,true,rfl,q⟩
 ·rw[if_neg n1,if_neg n2,if_pos e] at q;have hx':=hx;obtain ⟨k',rfl⟩:=hx;cases k' with
  | inl i=>exact ⟨_,.int i,false,rfl,iteF q⟩
  | inr z=>
   refine ⟨_,.str z,true,rfl,iteT ⟨hx',rfl,?_⟩⟩;rw[show decide (((arV (kV (Sum.inr z)):Nat):Int)=0)=decide (arV (kV (Sum.inr z))=0) from decide_eq_decide.mpr (by omega)];exact q
 ·rw[if_neg n1,if_neg n2,if_neg n3] at q;exact q
noncomputable abbrev K0:Stmt:=top 12
theorem Mx:av ["shape","kinds","words","place","under","at","shape_word","letter"] ["shape","kinds","words","place"] (ak K0):=⟨rfl,rfl,rfl,by decide+kernel,rfl,by decide+kernel,by decide+kernel⟩
theorem N4 (G:Gs w K mg κ) (h_leaf_letter:Has P w K mg base k "leaf_letter" ["word","kinds"] (ky K)) (h_lies_upon:Has P w K mg base k "lies_upon" ["letter","shape_word","word"] Er) (h_place_behind:Has P w K mg base k "place_behind" ["words","place"] (As K)) (D:Def K mg "laid" K0 ["shape","kinds","words","place"]):Has P w K mg base (k+1) "laid" ["shape","kinds","words","place"] (zz K):=by
 refine D.has Mx (λvs H Q E h=>?_) (λf cdv A outer s H vs Q E hr h=>?_)
 ·obtain ⟨_,_,_,_,_,_,_,_,rfl,_,_,_,_,_,_,_,_,_,_,_⟩:=h;rfl
 have nd:=Mx.nd;have hu:=b8 hr;have hu0:=aah hu;obtain ⟨st,kt,wt,sh,kinds,ws,p,n,rfl,hS,hK,hW,hk,hs,hw,hTm,he,hl1,hl2,q⟩:=h;have m_tuple:=G.m_tuple;refine ⟨_,(A4 (A6 4 nd (@O4 _ _ _ _ _ (CH (AJ 0) (AD (A3 0)) (CH (AJ 0) (AD (A3 0)) (CH (AJ 0) (AD (A3 0)) (@O0 _ _)))) rfl rfl (λe=>nomatch e) (by decide))) (A4 (A6 5 nd (A0 3)) (A4 (AY (BJ (A0 0)) (AL 6 nd (by first | exact ab1 rfl | exact ab2 rfl)) (A4 (A6 7 nd (AG h_leaf_letter hr (A1 (A0 6) (A1 (A0 1) (A3 0))))) (A4 (AB (@Mi _ _ _ _ (C0 (AG h_lies_upon hr (A1 (A0 7) (A1 (A0 6) (A1 (A8 (AF 0) (A0 2) (A0 5)) (A3 0))))))) (A7 (AC (@o7 _ _ _))) (AK 0)) (BC (AB (AA (@Lx _) (A0 7) (AJ 0) (A9 0)) (A7 (AO (AQ PySem.F.plainAttrs_list PySem.F.slot_list_append PySem.F.type_list_append (AU 0) (BN hu (A0 4) (A0 7)) (A1 (CG (AA (AM 0) (A0 7) (AJ 0) (A9 0)) (A0 5) (A8 (AF 0) (A0 2) (A0 5))) (A3 0))))) (AK 0)) (A7 (A6 5 nd (CG (AA (AM 0) (A0 7) (AJ 0) (A9 0)) (AG h_place_behind hr (A1 (A0 2) (A1 (A0 5) (A3 0)))) (A5 (AN 0) (A0 5) (A2 0))))))))) (A7 (AC (AH (A1 (AZ (BA 0) m_tuple dh (A1 (BN hu (A0 4) (AJ 0)) (A3 0))) (A1 (AZ (BA 0) m_tuple dh (A1 (BN hu (A0 4) (AJ 0)) (A3 0))) (A1 (AZ (BA 0) m_tuple dh (A1 (BN hu (A0 4) (AJ 0)) (A3 0))) (A3 0)))))))))),?_⟩;rw[show start ["shape","kinds","words","place","under","at","shape_word","letter"] [.ref st,.ref kt,.ref wt,.int (p:Int)]=[some (.ref st),some (.ref kt),some (.ref wt),some (.int (p:Int)),none,none,none,none] from rfl];clear hu hu0 nd hr;push_cast [tDisp,Ai];have sz:=sizeLine_eq;refine λu0 h0=>⟨aa7 _,λl1 h1=>⟨aa7 _,λl2 h2=>⟨aa7 _,λl3 h3=>⟨aa h3 _ _ _ (aa h2 _ _ _ (aa h1 _ _ _ ae)),[(Sum.inr lH,.ref l1),(Sum.inr lN,.ref l2),(Sum.inr lV,.ref l3)],rfl,by show (3:Nat)≤15;decide,?_⟩⟩⟩⟩;rw[show qe [] [(Sum.inr lH,V.ref l1),(Sum.inr lN,V.ref l2),(Sum.inr lV,V.ref l3)]=[(Sum.inr lH,V.ref l1),(Sum.inr lN,V.ref l2),(Sum.inr lV,V.ref l3)] from rfl];have n10:l1≠u0:=(af ae h1).symm;have n20:l2≠u0:=(af (aa h1 _ _ _ ae) h2).symm;have n30:l3≠u0:=(af (aa h2 _ _ _ (aa h1 _ _ _ ae)) h3).symm;have n21:l2≠l1:=(af ae h2).symm;have n31:l3≠l1:=(af (aa h2 _ _ _ ae) h3).symm;have n32:l3≠l2:=(af ae h3).symm;have S1:=aa h0 (.dK []);have f1:=S1.free h1;have S2:=S1.trans (aa h1 (.lst []));have f2:=S2.free h2;have S3:=S2.trans (aa h2 (.lst []));have f3:=S3.free h3;have S4:=(S3.trans (aa h3 (.lst []))).upd h0 (.dK [(Sum.inr lH,V.ref l1),(Sum.inr lN,V.ref l2),(Sum.inr lV,V.ref l3)]);have U4:UAt (upd (upd (upd (upd (upd H u0 (.dK [])) l1 (.lst [])) l2 (.lst [])) l3 (.lst [])) u0 (.dK [(Sum.inr lH,V.ref l1),(Sum.inr lN,V.ref l2),(Sum.inr lV,V.ref l3)])) u0 l1 l2 l3 ⟨[],[],[]⟩:=
  ⟨ae,by rw[ag n10,ag n31.symm,ag n21.symm,ae];rfl,by rw[ag n20,ag n32.symm,ae],by rw[ag n30,ae]⟩
 generalize upd (upd (upd (upd (upd H u0 (.dK [])) l1 (.lst [])) l2 (.lst [])) l3 (.lst [])) u0 (.dK [(Sum.inr lH,V.ref l1),(Sum.inr lN,V.ref l2),(Sum.inr lV,V.ref l3)])=H4 at S4 U4 ⊢;obtain ⟨P1,eP1⟩:∃P1:Nat→L2.St→Hp→Prop,∀i σ H',P1 i σ H'↔∃(q':Nat) (u:Und) (v6 v7:Option V),σ=[some (.ref st),some (.ref kt),some (.ref wt),some (.int (p:Int)),some (.ref u0),some (.int (q':Int)),v6,v7]∧ah H H'∧UAt H' u0 l1 l2 l3 u∧bo kinds ws (sh.drop i) q' u=bo kinds ws sh p ⟨[],[],[]⟩∧(u.hs.length≤i∧u.ns.length≤i∧u.vs.length≤i)∧Dr u∧∃d m,pend d ((sh.drop i).map arV)=some 0∧eat d ((ws.drop q').map arV)=some m:=⟨_,λ_ _ _=>abi⟩;refine ⟨⟨sh,S4.tup hS⟩,gu (xs:=sh) P1 ((eP1 _ _ _).mpr ⟨p,⟨[],[],[]⟩,none,none,rfl,S4,U4,rfl,⟨aa7 _,aa7 _,aa7 _⟩,⟨(λ_ h=>nomatch h),(λ_ h=>nomatch h)⟩,1,n,hTm,he⟩) (λi σ H' _ h=>by obtain ⟨_,_,_,_,_,s,_⟩:=(eP1 _ _ _).mp h;exact s.tup hS) ?_ ?_⟩
 ·intro i v σ H5 hvi hh;refine ob4 ((eP1 _ _ _).mp hh) λq' u v6 v7 hh=>?_;have s5:=hh.2.1;have U5:=hh.2.2.1;have e5:=hh.2.2.2.1;have hul:=hh.2.2.2.2.1;have huw:=hh.2.2.2.2.2.1;have hdm:=hh.2.2.2.2.2.2;obtain rfl:=hh.1;clear hh;obtain ⟨d,m,hp5,he5⟩:=hdm;have fin:∀(q2:Nat) (z:Int) (u2:Und) (w6 w7:Option V) (H':Hp),z=(q2:Int)→ah H H'→UAt H' u0 l1 l2 l3 u2→bo kinds ws (sh.drop (i+1)) q2 u2=bo kinds ws sh p ⟨[],[],[]⟩→(u2.hs.length≤i+1∧u2.ns.length≤i+1∧u2.vs.length≤i+1)→Dr u2→(∃d m,pend d ((sh.drop (i+1)).map arV)=some 0∧eat d ((ws.drop q2).map arV)=some m)→P1 (i+1) [some (.ref st),some (.ref kt),some (.ref wt),some (.int (p:Int)),some (.ref u0),some (.int z),w6,w7] H':=λq2 z u2 w6 w7 H' ez a1 a2 a3 a4 a5 a6=>(eP1 _ _ _).mpr ⟨q2,u2,w6,w7,by rw[ez],a1,a2,a3,a4,a5,a6⟩;have hil:i < sh.length:=(List.getElem?_eq_some_iff.mp hvi).1;have ed:sh.drop i=v::sh.drop (i+1):=by
   rw[aax hil];congr 1
   rw[aa0 hil] at hvi;exact aa3 hvi
  rw[ed] at e5 hp5;obtain ⟨d',rfl⟩:∃d',d=d'+1:=by
   cases d with
   | zero=>cases hp5
   | succ d'=>exact ⟨d',rfl⟩
  have hq:q' < ws.length:=by
   have a1:=Aa _ _ _ he5;have a2:=qd _ _ _ he5;rw[aa1,aan] at a2;omega
  have hx:ws[q']?=some ws[q']:=aa0 hq;have hxw:=hw _ (ab7 hq);have hat:atI ws (q':Int)=some ws[q']:=bg hx;have hvw:=hs v (aaf hvi);have hgd:ws.getD q' .non=ws[q']:=by rw[aae,hx];rfl
  rw[fz,hgd] at e5;generalize ws[q']=x at hx hxw hat hgd e5;push_cast [and_true];refine Pe hvw (s5.tup hK) ?_;push_cast [and_true];refine ⟨wt,ws,(q':Int),x,rfl,rfl,s5.tup hW,hat,mkLies hvw hxw ?_⟩;push_cast [and_true];cases hli:lies (br kinds v) v x with
  | false=>
   rw[hli,if_neg (by decide)] at e5;rw[if_pos (show (!false)=true from rfl)];have z:=q H5 s5;rw[←e5] at z;exact z
  | true=>
   rw[hli,if_pos rfl] at e5;rw[if_neg (show ¬(!true)=true by decide)];obtain ⟨d2,m2,hp6,he6⟩:=gr hk hvw hx hxw hp5 he5 hli;have hul':=u.F7 (br kinds v) q' x hul;have huw':=huw.put hxw (br kinds v) q';obtain ⟨b1,b2,b3,b4,b5,b6⟩:=lets;refine dy (λσ' H6=>σ'=[some (.ref st),some (.ref kt),some (.ref wt),some (.int (p:Int)),some (.ref u0),some (.int (q':Int)),some v,some (.str (br kinds v))]∧ah H H6∧UAt H6 u0 l1 l2 l3 (u.put (br kinds v) q' x)) ?_ ?_
   ·push_cast [and_true];refine ⟨rfl,?_⟩;rcases dv (kinds:=kinds) hvw with ⟨_,h⟩ | ⟨_,h⟩ | ⟨_,h⟩ | ⟨h,_⟩
    ·rw[h,if_pos (by decide+kernel)];refine ⟨_,U5.get2,ax U5.2.2.1,rfl,?_⟩;rw[if_neg (show ¬lN=Str.ofString "h" from b1)];exact ⟨wt,ws,_,x,rfl,rfl,s5.tup hW,hat,(bb (K:=K) U5.2.2.1 (by omega) ⟨s5.upd f2 _,U5.put2 n20 n21 n32 q' x⟩).2⟩
    ·rw[h,if_pos (by decide+kernel)];refine ⟨_,U5.get3,ax U5.2.2.2,rfl,?_⟩;rw[if_neg (show ¬lV=Str.ofString "h" from b2)];exact ⟨wt,ws,_,x,rfl,rfl,s5.tup hW,hat,(bb (K:=K) U5.2.2.2 (by omega) ⟨s5.upd f3 _,U5.put3 n30 n31 n32 q' x⟩).2⟩
    ·rw[h,if_pos (by decide+kernel)];refine ⟨_,U5.get1,ax U5.2.1,rfl,?_⟩;rw[if_pos (show lH=Str.ofString "h" from rfl)];exact (bb (K:=K) U5.2.1 (by rw[aa1];omega) ⟨s5.upd f1 _,U5.put1 n10 n21 n31 q' x⟩).2
    ·rw[h,if_neg (by decide+kernel),u.put0];exact ⟨s5,U5⟩
   ·rintro _ H6 ⟨rfl,s6,U6⟩;push_cast [and_true];refine ⟨rfl,bz (λhH=>?_) λhH=>?_⟩
    ·have hH:br kinds v=lH:=hH;rw[if_pos hH] at e5 he6;obtain ⟨n1,hn1⟩:=Fx he5;have en:endAt ws q'=q'+n1:=by unfold endAt;rw[hn1];rfl
     rw[en] at e5 he6;exact ⟨wt,ws,q',n1,rfl,s6.tup hW,hw,by omega,hn1,λH7 s7=>fin (q'+n1) _ _ _ _ _ (by omega) (s6.trans s7) (U6.same s7) e5 hul' huw' ⟨d2,m2,hp6,he6⟩⟩
    ·have hH:¬br kinds v=lH:=hH;rw[if_neg hH] at e5 he6;exact fin (q'+1) _ _ _ _ _ (by omega) s6 U6 e5 hul' huw' ⟨d2,m2,hp6,he6⟩
 ·intro σ H5 hh;refine ob4 ((eP1 _ _ _).mp hh) λq' u v6 v7 hh=>?_;have s5:=hh.2.1;have U5:=hh.2.2.1;have e5:=hh.2.2.2.1;have hul:=hh.2.2.2.2.1;have huw:=hh.2.2.2.2.2.1;have hdm:=hh.2.2.2.2.2.2;obtain rfl:=hh.1;clear hh;obtain ⟨d,m,hp5,he5⟩:=hdm;rw[ac1] at e5;have z:=q H5 s5;rw[←e5] at z;push_cast [and_true];refine ⟨_,U5.get1,_,.inl ⟨SqL.of U5.2.1,λt1 ht1=>?_⟩⟩;have U6:=U5.same (aa ht1 (.tup (u.hs.map plV)));refine ⟨_,U6.get2,_,.inl ⟨SqL.of U6.2.2.1,λt2 ht2=>?_⟩⟩;have U7:=U6.same (aa ht2 (.tup u.ns));refine ⟨_,U7.get3,_,.inl ⟨SqL.of U7.2.2.2,λt3 ht3=>⟨by show (3:Nat)≤sizeLine;decide,λt ht=>?_⟩⟩⟩;exact z t _ ((aa ht1 _).trans ((aa ht2 _).trans ((aa ht3 _).trans (aa ht _)))) ⟨t1,t2,t3,ae,aa ht _ _ _ (aa ht3 _ _ _ (aa ht2 _ _ _ ae)),aa ht _ _ _ (aa ht3 _ _ _ ae),aa ht _ _ _ ae⟩ ⟨⟨huw.1,by omega⟩,⟨huw.2,by omega⟩,by omega⟩
noncomputable abbrev zh:Stmt:=top 13
theorem Bv:av ["shape","kinds","under","hole_kinds"] ["shape","kinds","under"] (ak zh):=⟨rfl,rfl,rfl,by decide+kernel,rfl,by decide+kernel,by decide+kernel⟩
theorem Iy (G:Gs w K mg κ) (h_leaf_letter:Has P w K mg base k "leaf_letter" ["word","kinds"] (ky K)) (D:Def K mg "holes_under" zh ["shape","kinds","under"]):Has P w K mg base (k+1) "holes_under" ["shape","kinds","under"] (m9 K):=by
 refine D.has Bv (λvs H Q E h=>?_) (λf cdv A outer s H vs Q E hr h=>?_)
 ·obtain ⟨_,_,_,_,_,_,rfl,_,_,_,_,_,_,_,_⟩:=h;rfl
 have nd:=Bv.nd;have hu:=b8 hr;have hu0:=aah hu;obtain ⟨st,kt,ut,sh,kinds,u,rfl,hS,hK,hU,hk,hw,hl,hn,q⟩:=h;have m_list:=G.m_list;have m_zip:=G.m_zip;refine ⟨_,(A4 (@J3 _ _ _ _ _ _ _ _ _ _ _ _ _ _ _ 3 _ _ _ nd rfl (ab1 rfl) (BO ["word"] ["kinds"] [1] (aat rfl trivial) (aat (aat rfl (aat rfl rfl)) trivial)) rfl (BJ (A0 0)) (λ_ _ _=>(B7 0 (show abf (["word","kinds"]:List Str) by decide+kernel))) (λ_ _ _=>(@pif1 _ _ _ (AA (AM 0) (AG h_leaf_letter hr (A1 (A0 0) (A1 (AV 1) (A3 0)))) (AJ 0) (A9 0)))) (λ_ _ _=>(A0 0)) rfl (by intro _;rfl) (.inl rfl)) (A7 (AC (@Eu _ _ _ _ _ _ _ _ rfl rfl m_list rfl m_zip (A1 (A8 (AF 0) (A0 2) (A2 0)) (A1 (A0 3) (A3 0))) rfl rfl rfl)))),?_⟩;rw[show start ["shape","kinds","under","hole_kinds"] [.ref st,.ref kt,.ref ut]=[some (.ref st),some (.ref kt),some (.ref ut),none] from rfl];clear hu hu0 nd hr;push_cast [ky];have sz:=sizeLine_eq;refine ⟨⟨sh,hS⟩,λl hl'=>?_⟩;refine E6 (xs:=sh) (λi ys=>ys=(sh.take i).filter (isH kinds)) hS (by omega) hl' rfl (λi x ys H3 G' K' hx hP hl2 hS' hG hK'=>?_) λys H3 hP hl2 hS' hD2=>?_
 ·have hxw:=hw x (aaf hx);have et:sh.take (i+1)=sh.take i++[x]:=by rw[ab4,hx];rfl
  push_cast [ky];refine ⟨hxw,kinds,hS'.tup hK,rfl,bz (λe=>?_) λe=>?_⟩
  ·refine hK' _ _ (ah.refl _) ?_;rw[et,abd,←hP,aap,if_pos ((m5 hk hxw).mp e)];rfl
  ·refine hG _ (ah.refl _) ?_;rw[et,abd,←hP,aap,if_neg λz=>e ((m5 hk hxw).mpr z)];exact (ab3 _).symm
 ·rw[abj,←iq] at hP;subst hP;obtain ⟨t1,t2,t3,h1,h2,_⟩:=hU;push_cast [tLZ];refine au (hS' _ _ h1) rfl ⟨t1,rfl,u.hs.map plV,SqT.of (hS' _ _ h2),(aq kinds sh).map V.str,SqL.of hD2,by rw[aa1,aa1,hn],λl2 as H2 s2 hl2 hal hL hA=>q l2 H2 (hS'.trans s2) (hS'.free hl2) ⟨as,hL,?_,λj k hj=>?_⟩⟩
  ·rw[hal,aa1,aea,hn,ae2]
  ·obtain ⟨g1,g2⟩:=List.getElem?_zip_eq_some.mp (show (u.hs.zip (aq kinds sh))[j]?=some (k.1,k.2) from hj);exact hA j _ _ (by rw[aaa,g1];rfl) (by rw[aaa,g2];rfl)
noncomputable abbrev tf:Stmt:=top 14
theorem wg:av ["book","words","place","fitting","name","kind","price","shape","deeds","under"] ["book","words","place"] (ak tf):=⟨rfl,rfl,rfl,by decide+kernel,rfl,by decide+kernel,by decide+kernel⟩
theorem E9 (G:Gs w K mg κ) (h_holes_under:Has P w K mg base k "holes_under" ["shape","kinds","under"] (m9 K)) (h_laid:Has P w K mg base k "laid" ["shape","kinds","words","place"] (zz K)) (D:Def K mg "fitting_rules" tf ["book","words","place"]):Has P w K mg base (k+1) "fitting_rules" ["book","words","place"] pq:=by
 refine D.has wg (λvs H Q E h=>?_) (λf cdv A outer s H vs Q E hr h=>?_)
 ·obtain ⟨_,_,_,_,_,_,rfl,_,_,_,_,_,_⟩:=h;rfl
 have nd:=wg.nd;have hu:=b8 hr;have hu0:=aah hu;obtain ⟨b,wt,kinds,rs,ws,p,rfl,hB,hW,bk,tw,hp,q⟩:=h;refine ⟨_,(A4 (A6 3 nd (AD (A3 0))) (A4 (AY (BJ (A8 (AF 0) (A0 0) (A2 0))) (BX 5 (AS (AL 4 nd (by first | exact ab1 rfl | exact ab2 rfl)) (AS (AL 5 nd (by first | exact ab1 rfl | exact ab2 rfl)) (AS (AL 6 nd (by first | exact ab1 rfl | exact ab2 rfl)) (AS (AL 7 nd (by first | exact ab1 rfl | exact ab2 rfl)) (AS (AL 8 nd (by first | exact ab1 rfl | exact ab2 rfl)) (BP 0))))))) (A4 (A6 9 nd (AG h_laid hr (A1 (A0 7) (A1 (A8 (AF 0) (A0 0) (A2 0)) (A1 (A0 1) (A1 (A0 2) (A3 0))))))) (A7 (AB (BK (C7 (A0 9)) (by first | exact dq _ (by decide) (by decide) | rfl)) (A7 (AO (AQ PySem.F.plainAttrs_list PySem.F.slot_list_append PySem.F.type_list_append (AU 0) (A0 3) (A1 (AH (A1 (A0 4) (A1 (A0 5) (A1 (A0 6) (A1 (AG h_holes_under hr (A1 (A0 7) (A1 (A8 (AF 0) (A0 0) (A2 0)) (A1 (A0 9) (A3 0))))) (A3 0)))))) (A3 0))))) (AK 0))))) (A7 (AC (A0 3))))),?_⟩;rw[show start ["book","words","place","fitting","name","kind","price","shape","deeds","under"] [.ref b,.ref wt,.int (p:Int)]=[some (.ref b),some (.ref wt),some (.int (p:Int)),none,none,none,none,none,none,none] from rfl];clear hu hu0 nd hr;push_cast [and_true];have sz:=sizeLine_eq;have rl:=bk.len;refine ⟨aa7 _,λfl hfl=>?_⟩;have S1:=aa hfl (.lst []);obtain ⟨kt,rt,ra,hb,hkt,hrt,hRA⟩:=hB;refine au (S1 _ _ hb) rfl ⟨rt,rfl,⟨_,SqT.of (S1 _ _ hrt)⟩,?_⟩;obtain ⟨P1,eP1⟩:∃P1:Nat→L2.St→Hp→Prop,∀j σ H',P1 j σ H'↔∃(as:List Addr) (v4 v5 v6 v7 v8 v9:Option V),σ=[some (.ref b),some (.ref wt),some (.int (p:Int)),some (.ref fl),v4,v5,v6,v7,v8,v9]∧ah H H'∧H' fl=some (.lst (as.map V.ref))∧df H' (λx=>H x≠none∨x=fl) as ((rs.take j).filterMap (ll kinds ws p)):=⟨_,λ_ _ _=>abi⟩;refine gu (xs:=ra.map V.ref) P1 ((eP1 _ _ _).mpr ⟨[],none,none,none,none,none,none,rfl,S1,ae,df.nil _ _⟩) (λj σ H' _ h=>by obtain ⟨_,_,_,_,_,_,_,_,s,_⟩:=(eP1 _ _ _).mp h;exact SqT.of (s _ _ hrt)) ?_ ?_
 ·intro j y σ H5 hy hh;refine ob7 ((eP1 _ _ _).mp hh) λas v4 v5 v6 v7 v8 v9 hh=>?_;have s5:=hh.2.1;have f5:=hh.2.2.1;have F5:=hh.2.2.2;obtain rfl:=hh.1;clear hh;rw[aaa] at hy;obtain ⟨aj,haj,rfl⟩:=Option.map_eq_some_iff.mp hy;have hjl:j < rs.length:=by rw[←hRA.1];exact (List.getElem?_eq_some_iff.mp haj).1
  have hrj:rs[j]?=some rs[j]:=aa0 hjl;obtain ⟨a',ha',sa,da,ds,g1,g2,g3⟩:=hRA.2 j _ hrj;obtain rfl:a'=aj:=aa3 (ha'.symm.trans haj);generalize rs[j]=r at hrj g1 g2;have hrm:=aaf hrj;obtain ⟨n,hn⟩:=tw.eat hp;obtain ⟨w1,w2,w3⟩:=bk.sh r hrm;have twl:=tw.len;have et:(rs.take (j+1)).filterMap (ll kinds ws p)=(rs.take j).filterMap (ll kinds ws p)++(ll kinds ws p r).toList:=by
   rw[ab4,hrj,ade];congr 1
  refine J7 (s5 _ _ g1) rfl ?_;push_cast [and_true];refine au (s5 _ _ hb) rfl (Je (n:=n) (SqT.of (s5 _ _ g2)) (SqT.of (s5 _ _ hkt)) (SqT.of (s5 _ _ hW)) bk.kd w1 (λv hv=>(tw.w v hv).1) w2 hn (by omega) twl λH6 s6=>?_);have S6:=s5.trans s6;cases hu:bo kinds ws r.shape p ⟨[],[],[]⟩ with
  | none=>
   have ef:ll kinds ws p r=none:=by unfold ll;rw[hu];rfl
   refine pj ?_;push_cast [qu];rw[if_neg (by simp)];refine (eP1 _ _ _).mpr ⟨as,_,_,_,_,_,_,rfl,S6,s6 _ _ f5,?_⟩;rw[et,ef,show (none:Option Pc.Fr).toList=[] from rfl,ab3];exact F5.kx (Kx.same s6)
  | some u=>
   intro t H7 s7 hu7 ok7;have ef:ll kinds ws p r=some ⟨r.name,r.kind,r.price,u.hs.zip (aq kinds r.shape)⟩:=by unfold ll;rw[hu];rfl
   have S7:=S6.trans s7;push_cast [qu];rw[if_pos (by simp)];have s57:=s6.trans s7;have f7:=s57 _ _ f5;refine ⟨ax f7,au (S7 _ _ hb) rfl (Bl (SqT.of (S7 _ _ g2)) (SqT.of (S7 _ _ hkt)) hu7 bk.kd w1 (by omega) (by have:=(jm bk.kd r.shape p _ u w1 hu).1;simpa using this) λl H8 s8 hl8 hh8=>⟨by show (4:Nat)≤sizeLine;decide,λpr hpr=>?_⟩)⟩;have s9:=aa hpr (.tup [V.str r.name,V.str r.kind,V.int r.price,V.ref l]);have e9:upd H8 pr (.tup [V.str r.name,V.str r.kind,V.int r.price,V.ref l]) pr=some (.tup [V.str r.name,V.str r.kind,V.int r.price,V.ref l]):=ae;generalize upd H8 pr (.tup [V.str r.name,V.str r.kind,V.int r.price,V.ref l])=H9 at s9 e9 ⊢;have s79:=s8.trans s9;have f9:=s79 _ _ f7;have fal:as.length≤100:=by
    rw[F5.1];exact aar (abm _ _) (by rw[aav];omega)
   refine (bb (K:=K) f9 (by rw[aa1];omega) ((eP1 _ _ _).mpr ⟨as++[pr],_,_,_,_,_,_,rfl,(S7.trans s79).upd hfl _,by rw[ae,aa6];rfl,?_⟩)).2;rw[et,ef];refine df.kx (df.snoc (F5.kx (Kx.same (s57.trans s79))) ⟨l,?_,e9,hh8.same s9⟩) ((Kx.upd f9).weak λx hx=>.inr hx);rintro (z | z)
   ·exact z (S7.free hl8)
   ·exact (af f7 hl8) z.symm
 ·intro σ H5 hh;refine ob7 ((eP1 _ _ _).mp hh) λas v4 v5 v6 v7 v8 v9 hh=>?_;have s5:=hh.2.1;have f5:=hh.2.2.1;have F5:=hh.2.2.2;obtain rfl:=hh.1;clear hh;push_cast [and_true];rw[aa1,abe (by rw[hRA.1];exact aa4 _)] at F5;exact q fl as H5 s5 hfl f5 (F5.weak λx hx=>.inl hx)
noncomputable abbrev Dl:Stmt:=top 15
theorem Gd:av ["own","holes","least","total","hole"] ["own","holes","least"] (ak Dl):=⟨rfl,rfl,rfl,by decide+kernel,rfl,by decide+kernel,by decide+kernel⟩
theorem Lk (G:Gs w K mg κ) (D:Def K mg "price_there" Dl ["own","holes","least"]):Has P w K mg base (k+1) "price_there" ["own","holes","least"] la:=by
 refine D.has Gd (λvs H Q E h=>?_) (λf cdv A outer s H vs Q E hr h=>?_)
 ·obtain ⟨_,_,_,_,_,_,rfl,_,_,_⟩:=h;rfl
 have nd:=Gd.nd;have hu:=b8 hr;have hu0:=aah hu;obtain ⟨own,hl,d,hs,g,n,rfl,hH,hT,q⟩:=h;refine ⟨_,(A4 (A6 3 nd (A0 0)) (A4 (AY (BH (A0 1)) (AL 4 nd (by first | exact ab1 rfl | exact ab2 rfl)) (A4 (AB (BK (@ox _ _ _ _ _ hu (A0 4) (A0 2)) (by first | exact dq _ (by decide) (by decide) | rfl)) (A7 (AC (@o7 _ _ _))) (AK 0)) (A7 (A6 3 nd (A5 (AN 0) (A0 3) (BN hu (A0 2) (A0 4))))))) (A7 (AC (A0 3))))),?_⟩;rw[show start ["own","holes","least","total","hole"] [.int own,.ref hl,.ref d]=[some (.int own),some (.ref hl),some (.ref d),none,none] from rfl];clear hu hu0 nd hr;push_cast [and_true];obtain ⟨as,h1,h2,h3⟩:=hH;refine ⟨⟨_,SqL.of h1⟩,gq (xs:=as.map V.ref) (λi σ H'=>∃(c:Int) (v4:Option V),σ=[some (.int own),some (.ref hl),some (.ref d),some (.int c),v4]∧H=H'∧cost g c (hs.drop i)=cost g own hs) ⟨own,none,rfl,rfl,rfl⟩ (λi σ H' _ h=>by obtain ⟨_,_,_,rfl,_⟩:=h;exact SqL.of h1) ?_ ?_⟩
 ·rintro i y σ H' hy ⟨c,v4,rfl,rfl,hc⟩;rw[aaa] at hy;obtain ⟨a,ha,rfl⟩:=Option.map_eq_some_iff.mp hy;have hil:i < hs.length:=by rw[←h2];exact (List.getElem?_eq_some_iff.mp ha).1
  have hk:hs[i]?=some hs[i]:=aa0 hil;obtain ⟨a',ha',hA⟩:=h3 i _ hk;obtain rfl:a'=a:=aa3 (ha'.symm.trans ha);rw[aax hil] at hc;push_cast [and_true];refine ⟨_,hT.get hA,?_⟩;cases e:g hs[i] with
  | none=>
   rw[iz e] at hc;rw[←hc] at q;exact q
  | some v=>
   rw[dz e] at hc;have hG:=hT.val hA e;rw[if_neg (by simp)];exact ⟨_,hG,hc⟩
 ·rintro σ H' ⟨c,v4,rfl,rfl,hc⟩;rw[aa1,h2,ac1] at hc;have hc:some c=cost g own hs:=hc;push_cast [and_true];rw[←hc] at q;exact q
noncomputable abbrev ze:Stmt:=top 16
theorem By:av ["place","fitting","least","settled","name","kind","own","holes","price"] ["place","fitting","least"] (ak ze):=⟨rfl,rfl,rfl,by decide+kernel,rfl,by decide+kernel,by decide+kernel⟩
theorem Iz (G:Gs w K mg κ) (h_price_there:Has P w K mg base k "price_there" ["own","holes","least"] la) (D:Def K mg "settle_part" ze ["place","fitting","least"]):Has P w K mg base (k+1) "settle_part" ["place","fitting","least"] vj:=by
 refine D.has By (λvs H Q E h=>?_) (λf cdv A outer s H vs Q E hr h=>?_)
 ·obtain ⟨_,_,_,_,_,_,_,rfl,_,_,_,_,_,_,_,_⟩:=h;rfl
 have nd:=By.nd;have hu:=b8 hr;have hu0:=aah hu;obtain ⟨p,fl,d,as,fs,g,n,rfl,hF,hFs,hT,hn,ho,hpos,hnew,q⟩:=h;refine ⟨_,(A4 (A6 3 nd (BR 0)) (A7 (C3 (@Mi _ _ _ _ (C0 (A0 3))) (A4 (A6 3 nd (BR 0)) (A7 (AY (BH (A0 1)) (BX 4 (AS (AL 4 nd (by first | exact ab1 rfl | exact ab2 rfl)) (AS (AL 5 nd (by first | exact ab1 rfl | exact ab2 rfl)) (AS (AL 6 nd (by first | exact ab1 rfl | exact ab2 rfl)) (AS (AL 7 nd (by first | exact ab1 rfl | exact ab2 rfl)) (BP 0)))))) (A4 (A6 8 nd (AG h_price_there hr (A1 (A0 6) (A1 (A0 7) (A1 (A0 2) (A3 0)))))) (A7 (AB (B8 (BF (BK (C7 (A0 8)) (by first | exact dq _ (by decide) (by decide) | rfl)) (BI (B8 (C8 (BK (@ox _ _ _ _ _ hu (AH (A1 (A0 0) (A1 (A0 5) (A3 0)))) (A0 2)) (by first | exact dq _ (by decide) (by decide) | rfl)) (@ym _ _ _ _ (AA (@pf _) (A0 8) (BN hu (A0 2) (AH (A1 (A0 0) (A1 (A0 5) (A3 0))))) (A9 0)))))))) (A4 (@Gr _ _ _ _ _ _ _ _ _ hu (A0 2) (AH (A1 (A0 0) (A1 (A0 5) (A3 0)))) (A0 8) rfl) (A7 (A6 3 nd (BR 0)))) (AK 0)))))))))),?_⟩;rw[show start ["place","fitting","least","settled","name","kind","own","holes","price"] [.int (p:Int),.ref fl,.ref d]=[some (.int (p:Int)),some (.ref fl),some (.ref d),none,none,none,none,none,none] from rfl];clear hu hu0 nd hr;push_cast [and_true];have sz:=sizeLine_eq;have hal:=hFs.1;have own:∀f∈fs.map (eu p),1≤f.own:=λf hf=>by
  obtain ⟨f',hf',rfl⟩:=List.mem_map.mp hf;exact ho f' hf'
 obtain ⟨μ,Ok,ok0,okpos,okstep⟩:=ends (F:=fs.map (eu p)) hpos own hT.bound;have cl:∀g',cnt (fs.map (eu p)) g'≤fs.length:=λg'=>by have:=Kn (fs.map (eu p)) g';rw[aa1] at this;exact this
 have keep:∀{H':Hp},ao d H H'→H' fl=some (.lst (as.map V.ref))∧df H' (λ_=>False) as fs:=λs'=>⟨(Kx.tb (no:=λ_=>False) hT s').l id hF,hFs.kx (Kx.tb hT s')⟩;obtain ⟨P1,eP1⟩:∃P1:L2.St→Hp→Prop,∀σ H',P1 σ H'↔∃(g':Ky→Option Int) (b:Bool) (v4 v5 v6 v7 v8:Option V),σ=[some (.int (p:Int)),some (.ref fl),some (.ref d),some (.bl b),v4,v5,v6,v7,v8]∧ao d H H'∧c9 H' d g' (n+cnt (fs.map (eu p)) g')∧SetI p fs g Ok g'∧(b=true→kb (fs.map (eu p)) g'):=⟨_,λ_ _=>abi⟩;refine j9 P1 (λσ H'=>2*μ (gOf H' d)+blAt σ) ((eP1 _ _).mpr ⟨g,false,none,none,none,none,none,rfl,ao.refl _ _,hT.mono (aay _ _),⟨ok0,λ_ _=>rfl,λk v hk hv=>by rw[hnew k hk] at hv;cases hv⟩,λe=>nomatch e⟩) ?_ ?_
 ·intro σ H1 hh;refine ob7 ((eP1 _ _).mp hh) λg1 b v4 v5 v6 v7 v8 hh=>?_;have s1:=hh.2.1;have T1:=hh.2.2.1;have I1:=hh.2.2.2.1;have st1:=hh.2.2.2.2;obtain rfl:=hh.1;clear hh;push_cast [and_true];cases b with
  | true=>
   rw[if_neg (by simp)];exact q H1 g1 s1 (T1.mono (by have:=cl g1;omega)) (st1 rfl) I1.far I1.due (okpos g1 I1.ok)
  | false=>
   rw[if_pos (by simp)];obtain ⟨f1,F1⟩:=keep s1;have e1:=Ls T1;obtain ⟨Pv,ePv⟩:∃Pv:Nat→L2.St→Hp→Prop,∀i σ H',Pv i σ H'↔∃(g':Ky→Option Int) (b:Bool) (v4 v5 v6 v7 v8:Option V),σ=[some (.int (p:Int)),some (.ref fl),some (.ref d),some (.bl b),v4,v5,v6,v7,v8]∧ao d H H'∧c9 H' d g' (n+cnt (fs.map (eu p)) g')∧SetI p fs g Ok g'∧(b=true→g'=g1∧∀(j:Nat) (f:Pc.Fr),j < i→fs[j]?=some f→M8 p g1 f)∧(b=false→μ g' < μ g1):=⟨_,λ_ _ _=>abi⟩;refine ⟨⟨_,SqL.of f1⟩,gq (xs:=as.map V.ref) Pv ((ePv _ _ _).mpr ⟨g1,true,v4,v5,v6,v7,v8,rfl,s1,T1,I1,λ_=>⟨rfl,λj f h=>absurd h (aeb _)⟩,λe=>nomatch e⟩) (λi σ H' _ h=>by obtain ⟨_,_,_,_,_,_,_,_,s,_⟩:=(ePv _ _ _).mp h;exact SqL.of (keep s).1) ?_ ?_⟩
   ·intro i y σ H2 hy hh;refine ob7 ((ePv _ _ _).mp hh) λg2 b v4 v5 v6 v7 v8 hh=>?_;have s2:=hh.2.1;have T2:=hh.2.2.1;have I2:=hh.2.2.2.1;have bt2:=hh.2.2.2.2.1;have bf2:=hh.2.2.2.2.2;obtain rfl:=hh.1;clear hh;rw[aaa] at hy;obtain ⟨a,ha,rfl⟩:=Option.map_eq_some_iff.mp hy;have hil:i < fs.length:=by rw[←hal];exact (List.getElem?_eq_some_iff.mp ha).1
    have hfi:fs[i]?=some fs[i]:=aa0 hil;obtain ⟨f2,F2⟩:=keep s2;obtain ⟨a',ha',hl,_,h3,h4⟩:=F2.2 i _ hfi;obtain rfl:a'=a:=aa3 (ha'.symm.trans ha);generalize fs[i]=f at hfi h3 h4;have hfm:=aaf hfi;refine Bc h3 rfl ?_;push_cast [and_true];refine Pg h4 T2 ?_;have no:∀H' w4 w5 w6 w7 w8,ah H2 H'→M8 p g2 f→Pv (i+1) [some (.int (p:Int)),some (.ref fl),some (.ref d),some (.bl b),w4,w5,w6,w7,w8] H':=λH' w4 w5 w6 w7 w8 s' so=>(ePv _ _ _).mpr ⟨g2,b,w4,w5,w6,w7,w8,rfl,s2.trans (ao.of s'),T2.same s',I2,λe=>⟨(bt2 e).1,λj f' hj hf'=>by
     obtain ⟨e1',h⟩:=bt2 e;by_cases c:j < i
     ·exact h j f' c hf'
     ·obtain rfl:j=i:=by omega
      obtain rfl:f=f':=aa3 (hfi.symm.trans hf');rw[←e1'];exact so⟩,bf2⟩
    have yes:∀(H':Hp) (b':Addr) (c:Int) w4 w5 w6 w7 w8,ah H2 H'→H' b'=some (kyT (p,f.kind))→cost g2 f.own f.hs=some c→Imp g2 (p,f.kind) c→∃H'',Aw H' d (.ref b') (.int c) H''∧Pv (i+1) [some (.int (p:Int)),some (.ref fl),some (.ref d),some (.bl false),w4,w5,w6,w7,w8] H'':=λH' b' c w4 w5 w6 w7 w8 s' hb hc im=>by
     obtain ⟨o,hput,htb⟩:=(T2.same s').put (v:=c) hb (by have:=cl g2;omega);obtain ⟨ok',lt⟩:=okstep g2 (eu p f) c I2.ok (List.mem_map.mpr ⟨f,hfm,rfl⟩) hc im;refine ⟨upd H' d o,hput,(ePv _ _ _).mpr ⟨ia g2 (p,f.kind) c,false,w4,w5,w6,w7,w8,rfl,(s2.trans (ao.of s')).trans (ao.tb o),htb.mono (cnt_up hfm),I2.put hfm hc im ok',(λe=>nomatch e),λ_=>?_⟩⟩;have lt:μ (ia g2 (p,f.kind) c) < μ g2:=lt;cases b with
     | true=>
      obtain ⟨rfl,_⟩:=bt2 rfl;exact lt
     | false=>
      have:=bf2 rfl;omega
    cases e:cost g2 f.own f.hs with
    | none=>
     push_cast [qu];rw[if_neg (by simp)];exact no H2 _ _ _ _ _ (ah.refl _) (λc hc=>by rw[e] at hc;cases hc)
    | some c=>
     push_cast [qu];rw[if_pos (by simp)];refine ⟨by show (2:Nat)≤sizeLine;decide,λp1 hp1=>⟨_,(T2.same (aa hp1 _)).get (k:=(p,f.kind)) ae,?_⟩⟩;cases e2:g2 (p,f.kind) with
     | none=>
      rw[if_pos (by simp)];exact ⟨by show (2:Nat)≤sizeLine;decide,λp2 hp2=>yes _ p2 c _ _ _ _ _ ((aa hp1 _).trans (aa hp2 _)) ae e (.inl e2)⟩
     | some v=>
      rw[if_neg (by simp)];refine ⟨by show (2:Nat)≤sizeLine;decide,λp2 hp2=>⟨_,(T2.same ((aa hp1 _).trans (aa hp2 _))).val (k:=(p,f.kind)) ae e2,bz (λlt=>⟨by show (2:Nat)≤sizeLine;decide,λp3 hp3=>yes _ p3 c _ _ _ _ _ ((aa hp1 _).trans ((aa hp2 _).trans (aa hp3 _))) ae e (.inr ⟨v,e2,lt⟩)⟩) λnlt=>no _ _ _ _ _ _ ((aa hp1 _).trans (aa hp2 _)) λc' hc'=>⟨v,e2,?_⟩⟩⟩;rw[e] at hc';have:=aa3 hc';omega
   ·intro σ H2 hh;refine ob7 ((ePv _ _ _).mp hh) λg2 b v4 v5 v6 v7 v8 hh=>?_;have s2:=hh.2.1;have T2:=hh.2.2.1;have I2:=hh.2.2.2.1;have bt2:=hh.2.2.2.2.1;have bf2:=hh.2.2.2.2.2;obtain rfl:=hh.1;clear hh;refine ⟨(eP1 _ _).mpr ⟨g2,b,v4,v5,v6,v7,v8,rfl,s2,T2,I2,λe=>?_⟩,?_⟩
    ·obtain ⟨rfl,h⟩:=bt2 e;exact Jb λj f hf=>h j f (by rw[aa1,hal];exact (List.getElem?_eq_some_iff.mp hf).1) hf
    ·rw[e1,Ls T2];cases b with
     | true=>
      obtain ⟨rfl,_⟩:=bt2 rfl;show 2*μ g2+0 < 2*μ g2+1
      omega
     | false=>
      have:=bf2 rfl;show 2*μ g2+1 < 2*μ g1+1
      omega
 ·intro σ H1 Q1 Q2 h c;simp only[tNot,jx,tB,i8] at c ⊢;obtain ⟨v,hv,cc,e,hq⟩:=c;exact ⟨v,hv,cc,e,h _ _ hq⟩
noncomputable abbrev Lz:Stmt:=top 17
theorem K7:av ["kind","price","fitting","least"] ["kind","price","fitting","least"] (ak Lz):=⟨rfl,rfl,rfl,by decide+kernel,rfl,by decide+kernel,by decide+kernel⟩
theorem hasWith (G:Gs w K mg κ) (h_price_there:Has P w K mg base k "price_there" ["own","holes","least"] la) (D:Def K mg "rules_with_price" Lz ["kind","price","fitting","least"]):Has P w K mg base (k+1) "rules_with_price" ["kind","price","fitting","least"] Dq:=by
 refine D.has K7 (λvs H Q E h=>?_) (λf cdv A outer s H vs Q E hr h=>?_)
 ·obtain ⟨_,_,_,_,_,_,_,_,rfl,_,_,_,_,_⟩:=h;rfl
 have nd:=K7.nd;have hu:=b8 hr;have hu0:=aah hu;obtain ⟨k,v,fl,d,as,fs,g,n,rfl,hF,hFs,hn,hT,q⟩:=h;refine ⟨_,(A7 (AC (BS (BO ["name","other","own","holes"] ["kind","least","price"] [0,3,1] (aat rfl (aat rfl (aat rfl trivial))) (aat (aat rfl (aat rfl rfl)) (aat (aat rfl (aat rfl rfl)) (aat (aat rfl (aat rfl rfl)) trivial)))) (BH (A0 2)) (λ_ _ _=>(@Gm _ _ K rfl _ _ _ 4 rfl (AS (B7 0 (show abf (["name","other","own","holes","kind","least","price"]:List Str) by decide+kernel)) (AS (B7 1 (show abf (["name","other","own","holes","kind","least","price"]:List Str) by decide+kernel)) (AS (B7 2 (show abf (["name","other","own","holes","kind","least","price"]:List Str) by decide+kernel)) (AS (B7 3 (show abf (["name","other","own","holes","kind","least","price"]:List Str) by decide+kernel)) (BP 0))))) rfl rfl)) (λ_ _ _=>(@pif1 _ _ _ (B8 (BF (AA (AM 0) (A0 1) (AV 4) (A9 0)) (BI (AA (AM 0) (AG h_price_there hr (A1 (A0 2) (A1 (A0 3) (A1 (AV 5) (A3 0))))) (AV 6) (A9 0))))))) (λ_ _ _=>(A0 0))))),?_⟩;rw[show start ["kind","price","fitting","least"] [.str k,.int v,.ref fl,.ref d]=[some (.str k),some (.int v),some (.ref fl),some (.ref d)] from rfl];clear hu hu0 nd hr;push_cast [la];have sz:=sizeLine_eq;have hal:=hFs.1;have one:∀(i:Nat) (t:Addr),as[i]?=some t→∃f hl,fs[i]?=some f∧H t=some (.tup [.str f.name,.str f.kind,.int f.own,.ref hl])∧rf H hl f.hs:=λi t ht=>by
  have hi:i < fs.length:=by rw[←hal];exact (List.getElem?_eq_some_iff.mp ht).1
  obtain ⟨a,h1,hl,_,h3,h4⟩:=hFs.2 i _ (aa0 hi);obtain rfl:a=t:=aa3 (h1.symm.trans ht);exact ⟨_,hl,aa0 hi,h3,h4⟩
 refine ⟨⟨_,SqL.of hF⟩,λD hD=>Ck (as:=as) (λi ys _=>ys=(namesW (fs.take i) g k v).map V.str) (λ_ _ _ _ _ h=>h) rfl (SqL.of hF) (λi t ht=>?_) (by omega) hD rfl (λi t x0 x1 x2 x3 ys H3 G' K' ht hx hP hl2 hS' hG hK'=>?_) λys H3 hP hl2 hS' hD2=>?_⟩
 ·obtain ⟨f,hl,_,h,_⟩:=one i t ht;exact ⟨_,_,_,_,h⟩
 ·obtain ⟨f,hl,hf,h,hh⟩:=one i t ht;rw[hx] at h;simp only[adw,HO.tup.injEq,ac6,and_true] at h;obtain ⟨rfl,rfl,rfl,rfl⟩:=h;have et:namesW (fs.take (i+1)) g k v=namesW (fs.take i) g k v++if f.kind=k∧cost g f.own f.hs=some v then [f.name] else []:=by
   unfold namesW;rw[ab4,hf,abd,aa6];congr 1
   show (List.filter _ [f]).map _=_
   rw[aap];by_cases c:f.kind=k∧cost g f.own f.hs=some v
   ·rw[if_pos c,if_pos (decide_eq_true c)];rfl
   ·rw[if_neg c,if_neg (by simpa using c)];rfl
  push_cast [la];refine ⟨rfl,bz (λe=>?_) λe=>?_⟩
  ·refine ⟨_,hh.same hS',g,⟨n,hT.same hS'⟩,?_⟩;cases e2:cost g f.own f.hs with
   | none=>
    refine ⟨rfl,?_⟩;rw[if_neg (by intro z;cases z)];refine hG _ (ah.refl _) ?_;rw[et,if_neg (λz=>by rw[e2] at z;cases z.2),ab3];exact hP
   | some c=>
    refine ⟨rfl,bz (λe3=>?_) λe3=>?_⟩
    ·have e3:c=v:=V.int.inj e3;refine hK' _ _ (ah.refl _) ?_;rw[et,if_pos ⟨e,by rw[e2,e3]⟩,aa6,←hP];rfl
    ·refine hG _ (ah.refl _) ?_;rw[et,if_neg (λz=>e3 (by rw[e2] at z;rw[aa3 z.2])),ab3];exact hP
  ·refine hG _ (ah.refl _) ?_;rw[et,if_neg (λz=>e z.1),ab3];exact hP
 ·rw[abe (by omega)] at hP;exact q D H3 hS' hD (by rw[←hP];exact hD2)
noncomputable abbrev Ex:Stmt:=top 18
theorem Ga:av ["book","place","fitting","least","rows","kind","price"] ["book","place","fitting","least"] (ak Ex):=⟨rfl,rfl,rfl,by decide+kernel,rfl,by decide+kernel,by decide+kernel⟩
theorem Mv (G:Gs w K mg κ) (h_rules_with_price:Has P w K mg base k "rules_with_price" ["kind","price","fitting","least"] Dq) (D:Def K mg "rows_of_part" Ex ["book","place","fitting","least"]):Has P w K mg base (k+1) "rows_of_part" ["book","place","fitting","least"] yr:=by
 refine D.has Ga (λvs H Q E h=>?_) (λf cdv A outer s H vs Q E hr h=>?_)
 ·obtain ⟨_,_,_,_,_,_,_,_,_,_,rfl,_,_,_,_,_,_,_⟩:=h;rfl
 have nd:=Ga.nd;have hu:=b8 hr;have hu0:=aah hu;obtain ⟨b,fl,d,p,kinds,rs,as,fs,g,n,rfl,hB,hkl,hF,hFs,hn,hT,q⟩:=h;have m_sorted:=G.m_sorted;refine ⟨_,(A4 (A6 4 nd (AD (A3 0))) (A4 (AY (BH (AR (@ji _) m_sorted vd (A1 (A8 (AF 0) (A0 0) (A2 0)) (A3 0)))) (AL 5 nd (by first | exact ab1 rfl | exact ab2 rfl)) (A7 (AB (BK (@pc_din _ _ _ _ _ hu (AH (A1 (A0 1) (A1 (A0 5) (A3 0)))) (A0 3)) (by first | exact dq _ (by decide) (by decide) | rfl)) (A4 (A6 6 nd (BN hu (A0 3) (AH (A1 (A0 1) (A1 (A0 5) (A3 0)))))) (A7 (AO (AQ PySem.F.plainAttrs_list PySem.F.slot_list_append PySem.F.type_list_append (AU 0) (A0 4) (A1 (AH (A1 (A0 1) (A1 (A0 5) (A1 (A0 6) (A1 (AG h_rules_with_price hr (A1 (A0 5) (A1 (A0 6) (A1 (A0 2) (A1 (A0 3) (A3 0)))))) (A3 0)))))) (A3 0)))))) (AK 0)))) (A7 (AC (A0 4))))),?_⟩;rw[show start ["book","place","fitting","least","rows","kind","price"] [.ref b,.int (p:Int),.ref fl,.ref d]=[some (.ref b),some (.int (p:Int)),some (.ref fl),some (.ref d),none,none,none] from rfl];clear hu hu0 nd hr;push_cast [and_true];have sz:=sizeLine_eq;refine ⟨aa7 _,λrl hrl=>?_⟩;have S1:=aa hrl (.lst []);obtain ⟨kt,rt,ra,hb,hkt,hrt,hRA⟩:=hB;refine au (S1 _ _ hb) rfl ⟨kt,rfl,kinds.map V.str,.inr (SqT.of (S1 _ _ hkt)),by rw[aa1];omega,_,tq,λkl is hpm hin hk=>?_⟩;rw[jc hpm hin];have S2:=S1.trans (aa hk (.lst ((az kinds).map V.str)));have k2:upd (upd H rl (.lst [])) kl (.lst ((az kinds).map V.str)) kl=some (.lst ((az kinds).map V.str)):=ae;have r2:upd (upd H rl (.lst [])) kl (.lst ((az kinds).map V.str)) rl=some (.lst []):=aa hk _ _ _ ae;generalize upd (upd H rl (.lst [])) kl (.lst ((az kinds).map V.str))=H2 at S2 k2 r2 ⊢;have hks:(az kinds).length≤60:=by rw[fw];exact hkl
 have nrk:rl≠kl:=(af (ae (H:=H) (a:=rl) (o:=.lst [])) hk);obtain ⟨P1,eP1⟩:∃P1:Nat→L2.St→Hp→Prop,∀i σ H',P1 i σ H'↔∃(bs:List Addr) (v5 v6:Option V),σ=[some (.ref b),some (.int (p:Int)),some (.ref fl),some (.ref d),some (.ref rl),v5,v6]∧ah H H'∧H' kl=some (.lst ((az kinds).map V.str))∧H' rl=some (.lst (bs.map V.ref))∧cn H' (λx=>H x≠none∨x=rl) bs (c8 ((az kinds).take i) fs p g):=⟨_,λ_ _ _=>abi⟩;refine ⟨⟨_,SqL.of k2⟩,gq (xs:=(az kinds).map V.str) P1 ((eP1 _ _ _).mpr ⟨[],none,none,rfl,S2,k2,r2,cn.nil _ _⟩) (λi σ H' _ h=>by obtain ⟨_,_,_,_,_,hk',_⟩:=(eP1 _ _ _).mp h;exact SqL.of hk') ?_ ?_⟩
 ·intro i y σ H5 hy hh;refine ob3 ((eP1 _ _ _).mp hh) λbs v5 v6 hh=>?_;have s5:=hh.2.1;have k5:=hh.2.2.1;have r5:=hh.2.2.2.1;have R5:=hh.2.2.2.2;obtain rfl:=hh.1;clear hh;rw[aaa] at hy;obtain ⟨z,hz,rfl⟩:=Option.map_eq_some_iff.mp hy;have et:c8 ((az kinds).take (i+1)) fs p g=c8 ((az kinds).take i) fs p g++((g (p,z)).map λv=>(⟨p,z,v,namesW fs g z v⟩:Rw)).toList:=by
   unfold c8;rw[ab4,hz,ade];congr 1
  have hbl:bs.length≤60:=by
   rw[R5.1];exact aar (abm _ _) (by rw[aav];omega)
  push_cast [and_true];refine ⟨by show (2:Nat)≤sizeLine;decide,λp1 hp1=>⟨_,(hT.same (s5.trans (aa hp1 _))).get (k:=(p,z)) ae,?_⟩⟩;have s6:=aa hp1 (.tup [V.int (p:Int),V.str z]);generalize upd H5 p1 (.tup [V.int (p:Int),V.str z])=H6 at s6 ⊢;have S6:=s5.trans s6;cases e:g (p,z) with
  | none=>
   rw[if_neg (by simp)];refine (eP1 _ _ _).mpr ⟨bs,_,_,rfl,S6,s6 _ _ k5,s6 _ _ r5,?_⟩;rw[et,e];show cn H6 _ bs (_++[])
   rw[ab3];exact R5.kx (Kx.same s6)
  | some v=>
   rw[if_pos (by simp)];refine ⟨by show (2:Nat)≤sizeLine;decide,λp2 hp2=>⟨_,(hT.same (S6.trans (aa hp2 _))).val (k:=(p,z)) ae e,?_⟩⟩;have s7:=aa hp2 (.tup [V.int (p:Int),V.str z]);generalize upd H6 p2 (.tup [V.int (p:Int),V.str z])=H7 at s7 ⊢;have S7:=S6.trans s7;have s57:=s6.trans s7;refine ⟨ax (s57 _ _ r5),mkWith (S7 _ _ hF) (hFs.kx (Kx.same S7)) hn (hT.same S7) λl H8 s8 hl8 h8=>⟨by show (4:Nat)≤sizeLine;decide,λp3 hp3=>?_⟩⟩;have s9:=aa hp3 (.tup [V.int (p:Int),V.str z,V.int v,V.ref l]);have e9:upd H8 p3 (.tup [V.int (p:Int),V.str z,V.int v,V.ref l]) p3=some (.tup [V.int (p:Int),V.str z,V.int v,V.ref l]):=ae;generalize upd H8 p3 (.tup [V.int (p:Int),V.str z,V.int v,V.ref l])=H9 at s9 e9 ⊢;have s59:=s57.trans (s8.trans s9);have r9:=s59 _ _ r5;refine (bb (K:=K) r9 (by rw[aa1];omega) ((eP1 _ _ _).mpr ⟨bs++[p3],_,_,rfl,(s5.trans s59).upd hrl _,by rw[ag nrk.symm];exact s59 _ _ k5,by rw[ae,aa6];rfl,?_⟩)).2;rw[et,e];refine cn.kx (cn.append (R5.kx (Kx.same s59)) (cn.one ⟨l,?_,e9,s9 _ _ h8⟩)) ((Kx.upd r9).weak λx hx=>.inr hx);rintro (y | y)
   ·exact y (S7.free hl8)
   ·exact (af (s57 _ _ r5) hl8) y.symm
 ·intro σ H5 hh;refine ob3 ((eP1 _ _ _).mp hh) λbs v5 v6 hh=>?_;have s5:=hh.2.1;have k5:=hh.2.2.1;have r5:=hh.2.2.2.1;have R5:=hh.2.2.2.2;obtain rfl:=hh.1;clear hh;push_cast [and_true];rw[aa1,abj] at R5;exact q rl bs H5 s5 hrl r5 (R5.weak λx hx=>.inl hx)
noncomputable abbrev Ea:Stmt:=top 19
theorem Gi:av ["book","words","least","parts","place","fitting","rows","part"] ["book","words"] (ak Ea):=⟨rfl,rfl,rfl,by decide+kernel,rfl,by decide+kernel,by decide+kernel⟩
theorem Kg (G:Gs w K mg κ) (h_fitting_rules:Has P w K mg base k "fitting_rules" ["book","words","place"] pq) (h_rows_of_part:Has P w K mg base k "rows_of_part" ["book","place","fitting","least"] yr) (h_settle_part:Has P w K mg base k "settle_part" ["place","fitting","least"] vj) (D:Def K mg "rows_with_all_rules" Ea ["book","words"]):Has P w K mg base (k+1) "rows_with_all_rules" ["book","words"] G1:=by
 refine D.has Gi (λvs H Q E h=>?_) (λf cdv A outer s H vs Q E hr h=>?_)
 ·obtain ⟨_,_,_,_,_,rfl,_,_,_,_,_⟩:=h;rfl
 have nd:=Gi.nd;have hu:=b8 hr;have hu0:=aah hu;obtain ⟨b,wt,kinds,rs,ws,rfl,hB,hW,bk,tw,q⟩:=h;have m_len:=G.m_len;have m_range:=G.m_range;have m_reversed:=G.m_reversed;refine ⟨_,(A4 (A6 2 nd (@Bs _ _)) (A4 (A6 3 nd (AD (A3 0))) (A4 (AY (@Hh _ _ _ _ _ _ _ _ rfl m_range (A1 (A5 (B0 0) (AR (AX 0) m_len d4 (A1 (A0 1) (A3 0))) (A2 0)) (A1 (C9 (@sq _) (A2 0)) (A1 (C9 (@sq _) (A2 0)) (A3 0)))) rfl rfl) (AL 4 nd (by first | exact ab1 rfl | exact ab2 rfl)) (A4 (A6 5 nd (AG h_fitting_rules hr (A1 (A0 0) (A1 (A0 1) (A1 (A0 4) (A3 0)))))) (A4 (AO (AG h_settle_part hr (A1 (A0 4) (A1 (A0 5) (A1 (A0 2) (A3 0)))))) (A7 (AO (AQ PySem.F.plainAttrs_list PySem.F.slot_list_append PySem.F.type_list_append (AU 0) (A0 3) (A1 (AG h_rows_of_part hr (A1 (A0 0) (A1 (A0 4) (A1 (A0 5) (A1 (A0 2) (A3 0)))))) (A3 0)))))))) (A4 (A6 6 nd (AD (A3 0))) (A4 (AY (@pi_rev _ _ _ _ _ _ rfl m_reversed (A1 (A0 3) (A3 0)) rfl) (AL 7 nd (by first | exact ab1 rfl | exact ab2 rfl)) (A7 (AO (AQ PySem.F.plainAttrs_list PySem.F.slot_list_extend PySem.F.type_list_extend (@k8 _) (A0 6) (A1 (A0 7) (A3 0)))))) (A7 (AC (A0 6)))))))),?_⟩;rw[show start ["book","words","least","parts","place","fitting","rows","part"] [.ref b,.ref wt]=[some (.ref b),some (.ref wt),none,none,none,none,none,none] from rfl];clear hu hu0 nd hr;push_cast [and_true];have sz:=sizeLine_eq;have wl:=tw.len;have rl:=bk.len;push_cast [Di,iDn];intro d hd;refine ⟨aa7 _,λpl hpl=>?_⟩;have S1:=aa hd (.dT []);have S2:=S1.trans (aa hpl (.lst []));have npd:pl≠d:=(af (ae (H:=H) (a:=d) (o:=.dT [])) hpl).symm;have d2:c9 (upd (upd H d (.dT [])) pl (.lst [])) d (λ_=>none) 0:=(c9.nil (H:=H) (d:=d)).same (aa hpl _);have p2:upd (upd H d (.dT [])) pl (.lst []) pl=some (.lst []):=ae;have fpl:H pl=none:=S1.free hpl;generalize upd (upd H d (.dT [])) pl (.lst [])=H2 at S2 d2 p2 ⊢;refine ⟨ws,.inr (SqT.of (S2 _ _ hW)),ws.length,rfl,by omega,?_⟩;have fl100:∀i,(bq kinds rs ws i).length≤100:=λi=>aar (Jy kinds rs ws i) rl;obtain ⟨P1,eP1⟩:∃P1:Nat→L2.St→Hp→Prop,∀i σ H',P1 i σ H'↔∃(g:Ky→Option Int) (pa:List Addr) (v4 v5:Option V),σ=[some (.ref b),some (.ref wt),some (.ref d),some (.ref pl),v4,v5,none,none]∧ah H H'∧c9 H' d g ((ws.length - i)*100)∧vx kinds rs ws i g∧H' pl=some (.lst (pa.map V.ref))∧gn H H' pl pa kinds rs ws i g:=⟨_,λ_ _ _=>abi⟩;refine Ri (n:=ws.length) P1 ((eP1 _ _ _).mpr ⟨λ_=>none,[],none,none,rfl,S2,d2.mono (aa7 _),vx.start kinds rs ws,p2,⟨by simp,λq h1 h2=>by omega⟩⟩) ?_ ?_
 ·intro i σ H5 hi hh;refine ob4 ((eP1 _ _ _).mp hh) λg pa v4 v5 hh=>?_;have s5:=hh.2.1;have T5:=hh.2.2.1;have O5:=hh.2.2.2.1;have p5:=hh.2.2.2.2.1;have P5:=hh.2.2.2.2.2;obtain rfl:=hh.1;clear hh;have fi:=fl100 i;push_cast [and_true];refine Ja (hB.same s5) (s5 _ _ hW) bk tw hi λfl as H6 s6 hfl f6 F6=>?_;refine Jp f6 (F6.weak (λ_ h=>h.elim)) (T5.same s6) (by omega) (λf hf=>(i5 bk hf).1) O5.pos (λk hk=>?_) λH7 g' s7 T7 st7 far7 due7 pos7=>?_
  ·cases e:g k with
   | none=>rfl
   | some v=>
    have:=(O5.at' k v e).1;omega
  have S7:ah H H7:=λc o h=>s7 c o (af h hd) ((s5.trans s6) c o h);have x7:∀{no:Addr→Prop},Kx no H6 H7:=Kx.tb (T5.same s6) s7;have p7:=x7.l (no:=λ_=>False) id (s6 _ _ p5);have f7:=x7.l (no:=λ_=>False) id f6;refine ⟨ax p7,P8 (hB.same S7) (aar bk.kl (by decide)) f7 ((F6.weak (no':=λ_=>False) (λ_ h=>h.elim)).kx x7) (by omega) T7 λl bs H8 s8 hl8 h8 R8=>?_⟩;have p8:=s8 _ _ p7;have pal:=P5.1;refine (bb (K:=K) p8 (by rw[aa1];omega) ((eP1 _ _ _).mpr ⟨g',pa++[l],_,_,rfl,(S7.trans s8).upd fpl _,((T7.same s8).at λo e=>by rw[ag npd.symm];exact e).mono (by omega),vx.step bk O5 hi st7 far7 due7 pos7,by rw[ae,aa6];rfl,?_⟩)).2;refine gn.kx (gn.snoc bk (P5.kx ((Kx.same s6).trans (x7.trans (Kx.same s8)))) hi far7 ?_ h8 (R8.weak λx hx=>?_)) ((Kx.upd p8).weak λx hx=>.inr hx)
  ·rintro (y | y)
   ·exact y (S7.free hl8)
   ·exact (af p7 hl8) y.symm
  ·rcases hx with y | y
   ·intro z;exact y (S7.free z)
   ·intro z;rw[y,p7] at z;cases z
 ·intro σ H5 hh;refine ob4 ((eP1 _ _ _).mp hh) λg pa v4 v5 hh=>?_;have s5:=hh.2.1;have T5:=hh.2.2.1;have O5:=hh.2.2.2.1;have p5:=hh.2.2.2.2.1;have P5:=hh.2.2.2.2.2;obtain rfl:=hh.1;clear hh;have pal:=P5.1;push_cast [and_true];refine ⟨aa7 _,λrl2 hrl=>⟨_,SqL.of (aa hrl _ _ _ p5),?_⟩⟩;refine M3 (xs:=pa.map V.ref) (λi σ H'=>∃(bs:List Addr) (v7:Option V),σ=[some (.ref b),some (.ref wt),some (.ref d),some (.ref pl),v4,v5,some (.ref rl2),v7]∧ah H5 H'∧H' rl2=some (.lst (bs.map V.ref))∧cn H5 (λx=>H x≠none) bs (mf kinds rs ws g i)) ⟨[],none,rfl,aa hrl _,ae,cn.nil _ _⟩ (λi σ H' _ h=>by obtain ⟨_,_,_,s,_⟩:=h;exact SqL.of (s _ _ p5)) ?_ ?_
  ·rintro i y σ H6 hi hy ⟨bs,v7,rfl,s6,r6,R6⟩;rw[aa1] at hi hy;have hiw:i < ws.length:=by omega
   obtain ⟨a,bs2,g1,g2,g3,g4⟩:=P5.2 i (aa7 _) hiw;rw[aaa,pal,show ws.length - 0 - 1 - i=ws.length - 1 - i by omega,g1] at hy;have hy:V.ref a=y:=aa3 hy;subst hy;push_cast [and_true];have bl:bs.length≤60*i:=by rw[R6.1];exact me kinds rs ws g (aar bk.kl (by decide)) i
   have bl2:bs2.length≤60:=by rw[g4.1];exact aar (uh _ _ _ _) (by rw[fw];exact aar bk.kl (by decide))
   refine ⟨ax r6,rl2,a,bs.map V.ref,bs2.map V.ref,rfl,rfl,r6,s6 _ _ g3,by rw[aa1,aa1];omega,?_⟩;refine ⟨s6.upd hrl _,bs++bs2,by rw[ae,aa6],?_⟩;rw[ju];exact R6.append (g4.weak λx hx=>.inl hx)
  ·rintro σ H6 ⟨bs,v7,rfl,s6,r6,R6⟩;push_cast [and_true];rw[aa1,pal,ace] at R6;exact q rl2 bs H6 g (s5.trans s6) (s5.free hrl) r6 O5.tbl (R6.kx (Kx.same s6))
noncomputable abbrev zg:Stmt:=top 20
theorem Dc:av ["book","words"] ["book","words"] (ak zg):=⟨rfl,rfl,rfl,by decide+kernel,rfl,by decide+kernel,by decide+kernel⟩
theorem Hv (G:Gs w K mg κ) (h_rows_with_all_rules:Has P w K mg base k "rows_with_all_rules" ["book","words"] G1) (D:Def K mg "prices" zg ["book","words"]):Has P w K mg base (k+1) "prices" ["book","words"] nk:=by
 refine D.has Dc (λvs H Q E h=>?_) (λf cdv A outer s H vs Q E hr h=>?_)
 ·obtain ⟨_,_,_,_,_,rfl,_,_,_,_,_⟩:=h;rfl
 have nd:=Dc.nd;have hu:=b8 hr;have hu0:=aah hu;obtain ⟨b,wt,kinds,rs,ws,rfl,hB,hW,bk,tw,q⟩:=h;refine ⟨_,(A7 (AC (BS (BO ["place","kind","price","rules"] [] [] trivial trivial) (BH (AG h_rows_with_all_rules hr (A1 (A0 0) (A1 (A0 1) (A3 0))))) (λ_ _ _=>(@Gm _ _ K rfl _ _ _ 4 rfl (AS (B7 0 (show abf (["place","kind","price","rules"]:List Str) by decide+kernel)) (AS (B7 1 (show abf (["place","kind","price","rules"]:List Str) by decide+kernel)) (AS (B7 2 (show abf (["place","kind","price","rules"]:List Str) by decide+kernel)) (AS (B7 3 (show abf (["place","kind","price","rules"]:List Str) by decide+kernel)) (BP 0))))) rfl rfl)) (λ_ _ _=>(@pif0 _)) (λ_ _ _=>(AH (A1 (A0 0) (A1 (A0 1) (A1 (A0 2) (A1 (A8 (@uy _ K rfl) (A0 3) (A2 0)) (A3 0)))))))))),?_⟩;rw[show start ["book","words"] [.ref b,.ref wt]=[some (.ref b),some (.ref wt)] from rfl];clear hu hu0 nd hr;push_cast [and_true];have sz:=sizeLine_eq;refine ⟨b,wt,kinds,rs,ws,rfl,hB,hW,bk,tw,λl as H1 g s1 hl h1 T R=>⟨l,rfl,⟨_,SqL.of h1⟩,λD hD=>?_⟩⟩;have rl:=l4 (g:=g) bk tw;have hal:=R.1;refine Ck (as:=as) (λi ys H'=>∃bs:List Addr,ys=bs.map V.ref∧rb H' bs ((rowsOf kinds rs ws g).take i)) (λi ys H' H'' tk h=>by obtain ⟨bs,h1,h2⟩:=h;exact ⟨bs,h1,h2.tk tk⟩) rfl (SqL.of h1) (λi t ht=>?_) (by omega) hD ⟨[],rfl,rfl,λj r h=>by simp at h⟩ (λi t x0 x1 x2 x3 ys H3 G' K' ht hx hP hl2 hS' hG hK'=>?_) λys H3 hP hl2 hS' hD2=>?_
 ·obtain ⟨r,nl,_,h,_⟩:=R.get ht;exact ⟨_,_,_,_,h⟩
 ·obtain ⟨r,nl,hr,h,hn⟩:=R.get ht;rw[hx] at h;simp only[adw,HO.tup.injEq,ac6,and_true] at h;obtain ⟨rfl,rfl,rfl,rfl⟩:=h;obtain ⟨nm,hnm⟩:=je T (aaf hr);obtain ⟨bs,rfl,hb⟩:=hP;push_cast [and_true];refine aw (v:=.str nm) (hS' _ _ hn) ?_ ⟨by show (4:Nat)≤sizeLine;decide,λpr hpr=>?_⟩
  ·cases e:r.names with
   | nil=>rw[e] at hnm;cases hnm
   | cons y ys=>rw[e] at hnm;cases hnm;exact bg (j:=0) rfl
  ·refine hK' _ _ (aa hpr _) ⟨bs++[pr],by rw[aa6];rfl,?_⟩;rw[ab4,hr];exact (hb.same (aa hpr _)).snoc hnm ae
 ·obtain ⟨bs,rfl,hb⟩:=hP;rw[abe (by omega)] at hb;exact q D bs H3 g (s1.trans hS') (s1.free hD) hD2 T hb
noncomputable abbrev Dt:Stmt:=top 22
theorem G2:av ["book","name","words","place","kind","rule","under"] ["book","name","words","place","kind"] (ak Dt):=⟨rfl,rfl,rfl,by decide+kernel,rfl,by decide+kernel,by decide+kernel⟩
theorem Jt (G:Gs w K mg κ) (h_laid:Has P w K mg base k "laid" ["shape","kinds","words","place"] (zz K)) (D:Def K mg "laid_rule" Dt ["book","name","words","place","kind"]):j3 P w K mg base (k+1) "laid_rule" ["book","name","words","place","kind"] (nu κ):=by
 refine D.hasX G2 (λvs H Q E h=>?_) (λf cdv A outer s H vs Q E hr h=>?_)
 ·obtain ⟨_,_,_,_,_,_,_,_,rfl,_,_,_,_,_,_,_,_,_⟩:=h;rfl
 have nd:=G2.nd;have hu:=b8 hr;have hu0:=aah hu;obtain ⟨b,wt,kinds,rs,ws,p,nm,kd,rfl,hB,hW,bk,tw,hp,hnm,hkd,q,e⟩:=h;have m_BadCover:=G.er.m_badCover;refine ⟨_,(A4 (@Et _ _ _ _ _ _ _ _ (@ua _ _ zd) rfl (BJ (A8 (AF 0) (A0 0) (A2 0))) (AL 5 nd (by first | exact ab1 rfl | exact ab2 rfl)) (A7 (AB (B8 (BF (AA (AM 0) (A8 (AF 0) (A0 5) (A2 0)) (A0 1) (A9 0)) (BI (AA (AM 0) (A8 (AF 0) (A0 5) (A2 0)) (A0 4) (A9 0))))) (A4 (A6 6 nd (AG h_laid hr (A1 (A8 (AF 0) (A0 5) (A2 0)) (A1 (A8 (AF 0) (A0 0) (A2 0)) (A1 (A0 2) (A1 (A0 3) (A3 0))))))) (A7 (AB (BK (C7 (A0 6)) (by first | exact dq _ (by decide) (by decide) | rfl)) (A7 (AC (AH (A1 (A0 5) (A1 (A0 6) (A3 0)))))) (AK 0)))) (AK 0))) (by intro _;rfl)) (A7 (CC G.er.x_badCover G.i_BadCover hr m_BadCover (A1 (@Pl _ _ _ _ _ _ _ (@pf_r _ _ _ _ _ _ _ (A0 1) (@pf_c _ _ _ _ _ _ _ (@pf_r _ _ _ _ _ _ _ (A0 4) (@pf_c _ _ _ _ _ _ _ (@pf_i _ _ _ _ _ _ _ (A0 3) (@pf_nil _)) (by decide+kernel))) (by decide+kernel))) (by decide)) (A3 0))))),?_⟩;rw[show start ["book","name","words","place","kind","rule","under"] [.ref b,.str nm,.ref wt,.int (p:Int),.str kd]=[some (.ref b),some (.str nm),some (.ref wt),some (.int (p:Int)),some (.str kd),none,none] from rfl];clear hu hu0 nd hr;push_cast [and_true];have sz:=sizeLine_eq;have rl:=bk.len;have twl:=tw.len;obtain ⟨kt,rt,ra,hb,hkt,hrt,hRA⟩:=id hB;refine au hb rfl ⟨rt,rfl,⟨_,SqT.of hrt⟩,?_⟩;obtain ⟨P1,eP1⟩:∃P1:Nat→L2.St→Hp→Prop,∀j σ H',P1 j σ H'↔∃(v5 v6:Option V),σ=[some (.ref b),some (.str nm),some (.ref wt),some (.int (p:Int)),some (.str kd),v5,v6]∧ah H H'∧∀(i:Nat) (x:Rl),i < j→rs[i]?=some x→x.name=nm→x.kind=kd→bo kinds ws x.shape p ⟨[],[],[]⟩=none:=⟨_,λ_ _ _=>abi⟩;refine gu (xs:=ra.map V.ref) P1 ((eP1 _ _ _).mpr ⟨none,none,rfl,ah.refl _,λi x h=>absurd h (aeb _)⟩) (λj σ H' _ h=>by obtain ⟨_,_,_,s,_⟩:=(eP1 _ _ _).mp h;exact SqT.of (s _ _ hrt)) ?_ ?_
 ·intro j y σ H5 hy hh;obtain ⟨v5,v6,rfl,s5,hno⟩:=(eP1 _ _ _).mp hh;rw[aaa] at hy;obtain ⟨aj,haj,rfl⟩:=Option.map_eq_some_iff.mp hy;have hjl:j < rs.length:=by rw[←hRA.1];exact (List.getElem?_eq_some_iff.mp haj).1
  have hrj:rs[j]?=some rs[j]:=aa0 hjl;obtain ⟨a',ha',hR⟩:=hRA.2 j _ hrj;obtain rfl:a'=aj:=aa3 (ha'.symm.trans haj);generalize rs[j]=x at hrj hR;have more:(x.name=nm→x.kind=kd→bo kinds ws x.shape p ⟨[],[],[]⟩=none)→∀(i:Nat) (y:Rl),i < j+1→rs[i]?=some y→y.name=nm→y.kind=kd→bo kinds ws y.shape p ⟨[],[],[]⟩=none:=λhx i y hi hyi=>by
   rcases ad0 i j with z | z
   ·exact hno i y z hyi
   ·obtain rfl:i=j:=by omega
    obtain rfl:x=y:=aa3 (hrj.symm.trans hyi);exact hx
  obtain ⟨sa,da,ds,g1,g2,g3⟩:=id hR;push_cast [and_true];refine au (s5 _ _ g1) rfl ⟨rfl,?_⟩;by_cases c:x.name=nm
  ·refine ifY (by rw[c]) (au (s5 _ _ g1) rfl ⟨rfl,?_⟩);by_cases c2:x.kind=kd
   ·obtain ⟨n,hn⟩:=tw.eat hp;obtain ⟨w1,w2,w3⟩:=bk.sh x (aaf hrj);refine ifY (by rw[c2]) (au (s5 _ _ g1) rfl (au (s5 _ _ hb) rfl (Je (n:=n) (SqT.of (s5 _ _ g2)) (SqT.of (s5 _ _ hkt)) (SqT.of (s5 _ _ hW)) bk.kd w1 (λv hv=>(tw.w v hv).1) w2 hn (by omega) twl λH6 s6=>?_)));cases hu:bo kinds ws x.shape p ⟨[],[],[]⟩ with
    | none=>
     refine pj ?_;push_cast [qu];rw[if_neg (by simp)];exact (eP1 _ _ _).mpr ⟨_,_,rfl,s5.trans s6,more λ_ _=>hu⟩
    | some u=>
     intro t H7 s7 hu7 ok7;push_cast [qu];rw[if_pos (by simp)];refine ⟨by show (2:Nat)≤sizeLine;decide,λpr hpr=>?_⟩;have S7:=(s5.trans s6).trans s7;have s8:=aa hpr (.tup [V.ref a',V.ref t]);refine q (x,u) ?_ pr _ (S7.trans s8) ⟨a',t,ae,hR.same (S7.trans s8),hu7.same s8⟩;rw[←c,←c2,ux bk hrj,hu];rfl
   ·exact ifN (by simpa using c2) ((eP1 _ _ _).mpr ⟨_,_,rfl,s5,more λ_ z=>absurd z c2⟩)
  ·exact ifN (by simpa using c) ((eP1 _ _ _).mpr ⟨_,_,rfl,s5,more λz=>absurd z c⟩)
 ·intro σ H5 hh;obtain ⟨v5,v6,rfl,s5,hno⟩:=(eP1 _ _ _).mp hh;push_cast [ny,tFmts,tFR,tFI,tF0];refine ⟨hnm.1,hnm.2,hkd.1,hkd.2,?_,λm=>⟨by show (1:Nat)≤100;decide,e (Hz λi x hi=>hno i x ?_ hi) H5 s5⟩⟩
  ·show p.log2 < 1920
   exact acu (Nat.log2_le_self p) (by omega)
  ·rw[aa1,hRA.1];exact (List.getElem?_eq_some_iff.mp hi).1
noncomputable abbrev Mw:Stmt:=top 23
theorem Ki:av ["book","step","rule"] ["book","step"] (ak Mw):=⟨rfl,rfl,rfl,by decide+kernel,rfl,by decide+kernel,by decide+kernel⟩
theorem Pr (G:Gs w K mg κ) (h_holes_under:Has P w K mg base k "holes_under" ["shape","kinds","under"] (m9 K)) (D:Def K mg "last_hole_first" Mw ["book","step"]):Has P w K mg base (k+1) "last_hole_first" ["book","step"] Ah:=by
 refine D.has Ki (λvs H Q E h=>?_) (λf cdv A outer s H vs Q E hr h=>?_)
 ·obtain ⟨_,_,_,_,_,_,rfl,_,_,_,_,_,_⟩:=h;rfl
 have nd:=Ki.nd;have hu:=b8 hr;have hu0:=aah hu;obtain ⟨b,t,kinds,rs,r,u,rfl,hB,bk,hr0,hS,hn,q⟩:=h;have m_list:=G.m_list;have m_reversed:=G.m_reversed;refine ⟨_,(A4 (A6 2 nd (A8 (AF 0) (A0 1) (A2 0))) (A7 (AC (@Ec _ _ _ _ _ _ _ rfl rfl m_list rfl m_reversed (A1 (AG h_holes_under hr (A1 (A8 (AF 0) (A0 2) (A2 0)) (A1 (A8 (AF 0) (A0 0) (A2 0)) (A1 (A8 (AF 0) (A0 1) (A2 0)) (A3 0))))) (A3 0)) rfl rfl)))),?_⟩;rw[show start ["book","step","rule"] [.ref b,.ref t]=[some (.ref b),some (.ref t),none] from rfl];clear hu hu0 nd hr;push_cast [and_true];have sz:=sizeLine_eq;obtain ⟨kt,rt,ra,hb,hkt,hrt,hRA⟩:=id hB;obtain ⟨ro,ut,t1,hR,hU⟩:=hS;obtain ⟨sa,da,ds,g1,g2,g3⟩:=id hR;obtain ⟨w1,w2,w3⟩:=bk.sh r hr0;refine au t1 rfl ?_;push_cast [tLR];refine au g1 rfl (au hb rfl (au t1 rfl (Bl (SqT.of g2) (SqT.of hkt) hU bk.kd w1 (by omega) hn λl H1 s1 hl h1=>?_)));obtain ⟨as,e1,e2,e3⟩:=h1;refine ⟨l,rfl,_,SqL.of e1,λp hp=>?_⟩;have s2:=aa hp (.lst (as.map V.ref).reverse);refine q p _ (s1.trans s2) (s1.free hp) ⟨as.reverse,by rw[ae,List.map_reverse],by rw[aaz,aaz,e2],λj k hj=>?_⟩;have hjl:=(List.getElem?_eq_some_iff.mp hj).1;rw[aaz] at hjl;rw[adb hjl] at hj;obtain ⟨a,a1,a2⟩:=e3 _ k hj;refine ⟨a,?_,s2 _ _ a2⟩;rw[adb (by rw[e2];exact hjl),e2];exact a1
noncomputable abbrev yt:Stmt:=top 24
theorem Ce:av ["book","words","place","kind","cover","steps","waiting","name","hole","step"] ["book","words","place","kind","cover"] (ak yt):=⟨rfl,rfl,rfl,by decide+kernel,rfl,by decide+kernel,by decide+kernel⟩
theorem Ia (G:Gs w K mg κ) (h_laid_rule:j3 P w K mg base k "laid_rule" ["book","name","words","place","kind"] (nu κ)) (h_last_hole_first:Has P w K mg base k "last_hole_first" ["book","step"] Ah) (D:Def K mg "laid_cover" yt ["book","words","place","kind","cover"]):j3 P w K mg base (k+1) "laid_cover" ["book","words","place","kind","cover"] (t4 κ):=by
 refine D.hasX Ce (λvs H Q E h=>?_) (λf cdv A outer s H vs Q E hr h=>?_)
 ·obtain ⟨_,_,_,_,_,_,_,_,_,rfl,_,_,_,_,_,_,_,_,_,_,_,_⟩:=h;rfl
 have nd:=Ce.nd;have hu:=b8 hr;have hu0:=aah hu;obtain ⟨b,wt,ct,kinds,rs,ws,p,kd,ns,rfl,hB,hW,hC,bk,tw,hp,hkd,hkz,hnz,hnl,q,e⟩:=h;have m_BadCover:=G.er.m_badCover;have m_len:=G.m_len;refine ⟨_,(A4 (A6 5 nd (AD (A3 0))) (A4 (A6 6 nd (AD (A1 (AH (A1 (A0 2) (A1 (A0 3) (A3 0)))) (A3 0)))) (A4 (@Et _ _ _ _ _ _ _ _ (@ua _ _ zd) rfl (BJ (A0 4)) (AL 7 nd (by first | exact ab1 rfl | exact ab2 rfl)) (A4 (AB (AA (AM 0) (AR (AX 0) m_len d4 (A1 (A0 6) (A3 0))) (A2 0) (A9 0)) (A7 (CC G.er.x_badCover G.i_BadCover hr m_BadCover (A1 (@Qm _ _ _ _ _ _ _ _ (A0 7) (by decide+kernel)) (A3 0)))) (AK 0)) (A4 (A6 8 nd (BY PySem.F.plainAttrs_list PySem.F.slot_list_pop PySem.F.type_list_pop (@oo _) (A0 6))) (A4 (A6 9 nd (CI h_laid_rule hr (A1 (A0 0) (A1 (A0 7) (A1 (A0 1) (A1 (A8 (AF 0) (A0 8) (A2 0)) (A1 (A8 (AF 0) (A0 8) (A2 0)) (A3 0)))))))) (A4 (AO (AQ PySem.F.plainAttrs_list PySem.F.slot_list_append PySem.F.type_list_append (AU 0) (A0 5) (A1 (A0 9) (A3 0)))) (A7 (AO (AQ PySem.F.plainAttrs_list PySem.F.slot_list_extend PySem.F.type_list_extend (@k8 _) (A0 6) (A1 (AG h_last_hole_first hr (A1 (A0 0) (A1 (A0 9) (A3 0)))) (A3 0))))))))) (by intro _;rfl)) (A4 (AB (AA (BB 0) (AR (AX 0) m_len d4 (A1 (A0 6) (A3 0))) (A2 0) (A9 0)) (A7 (CC G.er.x_badCover G.i_BadCover hr m_BadCover (A1 (AJ 0) (A3 0)))) (AK 0)) (A7 (AC (A0 5))))))),?_⟩;rw[show start ["book","words","place","kind","cover","steps","waiting","name","hole","step"] [.ref b,.ref wt,.int (p:Int),.str kd,.ref ct]=[some (.ref b),some (.ref wt),some (.int (p:Int)),some (.str kd),some (.ref ct),none,none,none,none,none] from rfl];clear hu hu0 nd hr;push_cast [and_true];have sz:=sizeLine_eq;refine ⟨aa7 _,λsl hsl=>⟨by show (2:Nat)≤sizeLine;decide,λp2 hp2=>⟨by show (1:Nat)≤sizeLine;decide,λwl hwl=>?_⟩⟩⟩;have s3:=aa hsl (.lst []);have s4:=aa hp2 (.tup [V.int (p:Int),V.str kd]);have s5:=aa hwl (.lst [V.ref p2]);have S5:=s3.trans (s4.trans s5);have fwl:=(s3.trans s4).free hwl;have nsw:sl≠wl:=af (s4 _ _ (ae (H:=H) (a:=sl) (o:=.lst []))) hwl;have c5:=(s4.trans s5) _ _ (ae (H:=H) (a:=sl) (o:=.lst []));have p5:=s5 _ _ (ae (H:=upd H sl (.lst [])) (a:=p2) (o:=.tup [V.int (p:Int),V.str kd]));have w5:upd (upd (upd H sl (.lst [])) p2 (.tup [V.int (p:Int),V.str kd])) wl (.lst [V.ref p2]) wl=some (.lst [V.ref p2]):=ae;generalize upd (upd (upd H sl (.lst [])) p2 (.tup [V.int (p:Int),V.str kd])) wl (.lst [V.ref p2])=H5 at s5 S5 c5 p5 w5 ⊢;obtain ⟨P1,eP1⟩:∃P1:Nat→L2.St→Hp→Prop,∀j σ H',P1 j σ H'↔∃(as bs:List Addr) (ds:List (Rl×Und)) (st:List Ky) (v7 v8 v9:Option V),σ=[some (.ref b),some (.ref wt),some (.int (p:Int)),some (.str kd),some (.ref ct),some (.ref sl),some (.ref wl),v7,v8,v9]∧ah H H'∧H' sl=some (.lst (as.map V.ref))∧gh H' as ds∧H' wl=some (.lst (bs.map V.ref))∧KsL H' bs st.reverse∧KyOk ws st∧st.length≤1+100*j∧ds.length≤j∧cm kinds rs ws ns [(p,kd)]=(cm kinds rs ws (ns.drop j) st).map (ds++·):=⟨_,λ_ _ _=>abi⟩;refine ⟨⟨_,SqT.of (S5 _ _ hC)⟩,gu (xs:=ns.map V.str) P1 ((eP1 _ _ _).mpr ⟨[],[p2],[],[(p,kd)],none,none,none,rfl,S5,c5,gh.nil _,w5,KsL.one p5,λk hk=>by rw[List.mem_singleton.mp hk];exact ⟨hp,hkd⟩,by show (1:Nat)≤_;omega,aa4 _,by rw[aed];simp⟩) (λj σ H' _ h=>by obtain ⟨_,_,_,_,_,_,_,_,s,_⟩:=(eP1 _ _ _).mp h;exact SqT.of (s _ _ hC)) ?_ ?_⟩
 ·intro j y σ H6 hy hh;obtain ⟨as,bs,ds,st,v7,v8,v9,rfl,s6,c6,D6,w6,K6,k6,sl6,dl6,cw⟩:=(eP1 _ _ _).mp hh;rw[aaa] at hy;obtain ⟨nm,hnm,rfl⟩:=Option.map_eq_some_iff.mp hy;have hjl:j < ns.length:=(List.getElem?_eq_some_iff.mp hnm).1;have ed:ns.drop j=nm::ns.drop (j+1):=by
   rw[aax hjl];congr 1
   exact (List.getElem?_eq_some_iff.mp hnm).2
  rw[ed] at cw;have nmt:=hnz nm (aaf hnm);push_cast [ny,Bh];have bl:=K6.1;rw[aaz] at bl;refine ⟨_,.inl (SqL.of w6),rfl,?_⟩;rw[aa1,bl];cases st with
  | nil=>
   refine ifY rfl ⟨nmt.1,by have:=nmt.2;omega,λm=>⟨by show (1:Nat)≤100;decide,e ?_ H6 s6⟩⟩;rw[cw];rfl
  | cons k st=>
   obtain ⟨bs',a,rfl,K6',hk⟩:=K6.pop;refine ifN (by rw[aai];omega) ?_;rw[aa6] at w6;refine qf (xs:=bs'.map V.ref) (y:=.ref a) w6 ?_;have sA:=s6.upd fwl (.lst (bs'.map V.ref));have tkA:TK H6 (upd H6 wl (.lst (bs'.map V.ref))):=TK.put w6 (λ_ z=>nomatch z);have wA:upd H6 wl (.lst (bs'.map V.ref)) wl=some (.lst (bs'.map V.ref)):=ae;have cA:upd H6 wl (.lst (bs'.map V.ref)) sl=some (.lst (as.map V.ref)):=by rw[ag nsw];exact c6
   have hkA:=tkA _ _ hk;have DA:=D6.tk tkA;have KA:=K6'.tk tkA;generalize upd H6 wl (.lst (bs'.map V.ref))=HA at sA tkA wA cA hkA DA KA ⊢;have kk:=k6 k aa9;refine au hkA rfl (au hkA rfl (De (hB.same sA) (sA _ _ hW) bk tw kk.1 nmt kk.2 (λd hd t HB sB hst=>?_) λhd HB sB=>?_))
   ·obtain ⟨kO,ul,hl⟩:=k6.step bk tw hkz hd;have cB:=sB _ _ cA;have wB:=sB _ _ wA;have al:=D6.1;have sC:=(sA.trans sB).upd hsl (.lst (as.map V.ref++[V.ref t]));have tkC:TK HB (upd HB sl (.lst (as.map V.ref++[V.ref t]))):=TK.put cB (λ_ z=>nomatch z);have wC:upd HB sl (.lst (as.map V.ref++[V.ref t])) wl=some (.lst (bs'.map V.ref)):=by rw[ag nsw.symm];exact wB
    have cC:upd HB sl (.lst (as.map V.ref++[V.ref t])) sl=some (.lst (as.map V.ref++[V.ref t])):=ae;have stC:=hst.tk tkC;have DC:=((DA.tk (TK.of sB)).tk tkC).snoc stC;have KC:=(KA.tk (TK.of sB)).tk tkC;refine bb cB (by rw[aa1];omega) ?_;generalize upd HB sl (.lst (as.map V.ref++[V.ref t]))=HC at sC tkC wC cC stC DC KC ⊢;refine ⟨ax wC,Kw (hB.same sC) bk (sj (r:=d.1) (u:=d.2) hd).1 stC hl λl2 HD sD hl2 hKs=>?_⟩;obtain ⟨cs,e1,KL⟩:=hKs.l;have csl:=KL.1;have bl':=KA.1;rw[aaz] at csl bl';have ul':(d.2.hs.zip (aq kinds d.1.shape)).length≤100:=ul;rw[aai] at sl6;have wD:=sD _ _ wC;refine ⟨wl,l2,bs'.map V.ref,cs.map V.ref,rfl,rfl,wD,e1,by rw[aa1,aa1];omega,(eP1 _ _ _).mpr ⟨as++[t],bs'++cs,ds++[d],ip kinds d++st,_,_,_,rfl,(sC.trans sD).upd fwl _,?_,(DC.tk (TK.of sD)).tk (TK.put wD (λ_ z=>nomatch z)),by rw[ae,aa6],?_,kO,by rw[aa2];omega,by rw[aa2,aac];omega,?_⟩⟩
    ·rw[ag nsw,aa6];exact sD _ _ cC
    ·rw[aer];exact ((KC.tk (TK.of sD)).app KL).tk (TK.put wD (λ_ z=>nomatch z))
    ·rw[cw,jk hd,Option.map_map];congr 1
     funext x
     simp
   ·refine e ?_ HB (sA.trans sB);rw[cw,kh hd];rfl
 ·intro σ H6 hh;obtain ⟨as,bs,ds,st,v7,v8,v9,rfl,s6,c6,D6,w6,K6,k6,sl6,dl6,cw⟩:=(eP1 _ _ _).mp hh;push_cast [ny,Bh];have bl:=K6.1;rw[aaz] at bl;refine ⟨_,.inl (SqL.of w6),?_⟩;rw[aa1,bl];rw[aa1,ac1] at cw;cases st with
  | nil=>exact ifN (by decide) (q ds (by rw[cw];simp[cm]) sl as H6 s6 c6 D6)
  | cons k st=>exact ifY (by rw[aai];omega) ⟨by show (1:Nat)≤100;decide,e (by rw[cw];rfl) H6 s6⟩
noncomputable abbrev zt:Stmt:=top 25
theorem Av:av ["book","words","place","kind","cover"] ["book","words","place","kind","cover"] (ak zt):=⟨rfl,rfl,rfl,by decide+kernel,rfl,by decide+kernel,by decide+kernel⟩
theorem Hc (G:Gs w K mg κ) (h_laid_cover:j3 P w K mg base k "laid_cover" ["book","words","place","kind","cover"] (t4 κ)) (D:Def K mg "cover_price" zt ["book","words","place","kind","cover"]):j3 P w K mg base (k+1) "cover_price" ["book","words","place","kind","cover"] (uu κ):=by
 refine D.hasX Av (λvs H Q E h=>?_) (λf cdv A outer s H vs Q E hr h=>?_)
 ·obtain ⟨_,_,_,_,_,_,_,_,_,rfl,_,_,_,_,_,_,_,_,_,_,_,_⟩:=h;rfl
 have nd:=Av.nd;have hu:=b8 hr;have hu0:=aah hu;obtain ⟨b,wt,ct,kinds,rs,ws,p,kd,ns,rfl,hB,hW,hC,bk,tw,hp,hkd,hkz,hnz,hnl,q,e⟩:=h;have m_sum:=G.m_sum;refine ⟨_,(A7 (AC (AR (@vz _ rfl) m_sum b_sum (A1 (BS (BO ["rule","under"] [] [] trivial trivial) (BH (CI h_laid_cover hr (A1 (A0 0) (A1 (A0 1) (A1 (A0 2) (A1 (A0 3) (A1 (A0 4) (A3 0)))))))) (λ_ _ _=>(@M5 _ _ K rfl _ _ _ _ rfl (AS (B7 0 (show abf (["rule","under"]:List Str) by decide+kernel)) (AS (B7 1 (show abf (["rule","under"]:List Str) by decide+kernel)) (BP 0))) rfl rfl)) (λ_ _ _=>(@pif0 _)) (λ_ _ _=>(A8 (@P6 _ K rfl) (A0 0) (A2 0)))) (A3 0))))),?_⟩;rw[show start ["book","words","place","kind","cover"] [.ref b,.ref wt,.int (p:Int),.str kd,.ref ct]=[some (.ref b),some (.ref wt),some (.int (p:Int)),some (.str kd),some (.ref ct)] from rfl];clear hu hu0 nd hr;push_cast [and_true];have sz:=sizeLine_eq;refine Lu hB hW hC bk tw hp hkd hkz hnz hnl (λds hds l as H1 s1 hl D1=>⟨l,rfl,⟨_,SqL.of hl⟩,λD hD=>?_⟩) e;have al:=D1.1;have dl:=(qr hds).1;refine Mq (as:=as) (λi ys=>ys=(ds.take i).map λd=>V.int d.1.price) rfl (SqL.of hl) (λi t ht=>?_) (by omega) hD rfl (λi t x y ys H2 G' K' ht hx hP hS hG hK=>?_) λys H2 hP hS hd=>?_
 ·have hi:=(List.getElem?_eq_some_iff.mp ht).1;obtain ⟨a,a1,ra,ut,a2,_⟩:=D1.2 i _ (aa0 (show i < ds.length by omega));obtain rfl:a=t:=aa3 (a1.symm.trans ht);exact ⟨_,_,a2⟩
 ·have hi:=(List.getElem?_eq_some_iff.mp ht).1;have hdi:ds[i]?=some ds[i]:=aa0 (show i < ds.length by omega);obtain ⟨a,a1,ra,ut,a2,⟨sa,da,dd,g1,g2,g3⟩,_⟩:=D1.2 i _ hdi;obtain rfl:a=t:=aa3 (a1.symm.trans ht);rw[hx] at a2;obtain ⟨rfl,rfl⟩:x=.ref ra∧y=.ref ut:=by simpa using a2
  push_cast [and_true];refine au (hS _ _ g1) rfl (hK _ _ (ah.refl _) ?_);rw[ab4,hdi,aa6,←hP];rfl
 ·rw[abe (by omega)] at hP;refine ⟨ds.map λd:Rl×Und=>d.1.price,SqL.of (by rw[hd,hP,ac3];rfl),q ds hds H2 (s1.trans hS)⟩
noncomputable abbrev Ff:Stmt:=top 26
theorem Gj:av ["book","words","chosen","place","kind","price","rule"] ["book","words"] (ak Ff):=⟨rfl,rfl,rfl,by decide+kernel,rfl,by decide+kernel,by decide+kernel⟩
theorem Mp (G:Gs w K mg κ) (h_prices:Has P w K mg base k "prices" ["book","words"] nk) (D:Def K mg "rules_of_table" Ff ["book","words"]):Has P w K mg base (k+1) "rules_of_table" ["book","words"] za:=by
 refine D.has Gj (λvs H Q E h=>?_) (λf cdv A outer s H vs Q E hr h=>?_)
 ·obtain ⟨_,_,_,_,_,rfl,_,_,_,_,_⟩:=h;rfl
 have nd:=Gj.nd;have hu:=b8 hr;have hu0:=aah hu;obtain ⟨b,wt,kinds,rs,ws,rfl,hB,hW,bk,tw,q⟩:=h;refine ⟨_,(A4 (A6 2 nd (@Bs _ _)) (A4 (AY (BH (AG h_prices hr (A1 (A0 0) (A1 (A0 1) (A3 0))))) (BX 4 (AS (AL 3 nd (by first | exact ab1 rfl | exact ab2 rfl)) (AS (AL 4 nd (by first | exact ab1 rfl | exact ab2 rfl)) (AS (AL 5 nd (by first | exact ab1 rfl | exact ab2 rfl)) (AS (AL 6 nd (by first | exact ab1 rfl | exact ab2 rfl)) (BP 0)))))) (A7 (@Gr _ _ _ _ _ _ _ _ _ hu (A0 2) (AH (A1 (A0 3) (A1 (A0 4) (A3 0)))) (A0 6) rfl))) (A7 (AC (A0 2))))),?_⟩;rw[show start ["book","words","chosen","place","kind","price","rule"] [.ref b,.ref wt]=[some (.ref b),some (.ref wt),none,none,none,none,none] from rfl];clear hu hu0 nd hr;push_cast [and_true];have sz:=sizeLine_eq;push_cast [Di];intro d hd;have s0:=aa hd (.dT []);have d0:upd H d (.dT []) d=some (.dT []):=ae;generalize upd H d (.dT [])=H0 at s0 d0 ⊢;refine Bu (hB.same s0) (s0 _ _ hW) bk tw λfd bs HB g sB hfd hL T R4=>?_;have rl:=l4 (g:=g) bk tw;have bl:=R4.1;have dB:=sB _ _ d0;have nfd:fd≠d:=(af d0 hfd).symm;obtain ⟨P1,eP1⟩:∃P1:Nat→L2.St→Hp→Prop,∀i σ H',P1 i σ H'↔∃v3 v4 v5 v6:Option V,σ=[some (.ref b),some (.ref wt),some (.ref d),v3,v4,v5,v6]∧ao d HB H'∧H' d=some (.dT (((rowsOf kinds rs ws g).take i).map gy)):=⟨_,λ_ _ _=>abi⟩;refine ⟨fd,rfl,⟨_,SqL.of hL⟩,gq (xs:=bs.map V.ref) P1 ((eP1 _ _ _).mpr ⟨none,none,none,none,rfl,ao.refl _ _,dB⟩) (λi σ H' _ h=>by obtain ⟨_,_,_,_,_,s,_⟩:=(eP1 _ _ _).mp h;exact SqL.of (s _ _ nfd hL)) ?_ ?_⟩
 ·intro i y σ H5 hy hh;obtain ⟨v3,v4,v5,v6,rfl,s5,d5⟩:=(eP1 _ _ _).mp hh;rw[aaa] at hy;obtain ⟨a,ha,rfl⟩:=Option.map_eq_some_iff.mp hy;have hil:i < (rowsOf kinds rs ws g).length:=by rw[←bl];exact (List.getElem?_eq_some_iff.mp ha).1
  have hri:(rowsOf kinds rs ws g)[i]?=some (rowsOf kinds rs ws g)[i]:=aa0 hil;obtain ⟨a',nm,h1,h2,h3⟩:=R4.2 i _ hri;obtain rfl:a'=a:=aa3 (h1.symm.trans ha);generalize (rowsOf kinds rs ws g)[i]=r at hri h2 h3;have new:=Df bk hri;have en:r.names.headD ""=nm:=by rw[acz,h2];rfl
  refine Bc (s5 _ _ (gx h3 dB (by intro z;cases z)) h3) rfl ?_;push_cast [and_true];refine ⟨by show (2:Nat)≤sizeLine;decide,λp hp=>?_⟩;have s6:=aa hp (.tup [V.int (r.place:Int),V.str r.kind]);have p6:upd H5 p (.tup [V.int (r.place:Int),V.str r.kind]) p=some (.tup ((kyK (j8 r)).map kV)):=ae;generalize upd H5 p (.tup [V.int (r.place:Int),V.str r.kind])=H6 at s6 p6 ⊢;refine ⟨_,Aw.t (k:=kyK (j8 r)) (s6 _ _ d5) p6 (by rw[aa1,aav];omega),(eP1 _ _ _).mpr ⟨_,_,_,_,rfl,(s5.trans (ao.of s6)).trans (ao.tb _),?_⟩⟩;rw[ae,Bm _ new,ab4,hri,aa6,←en];rfl
 ·intro σ H5 hh;obtain ⟨v3,v4,v5,v6,rfl,s5,d5⟩:=(eP1 _ _ _).mp hh;rw[aa1,bl,abj] at d5;push_cast [and_true];refine q d H5 g (λc o h=>s5 c o (af h hd) ((s0.trans sB) c o h)) hd T ⟨_,d5,Qo bk T⟩
noncomputable abbrev E7:Stmt:=top 27
theorem Fo:av ["book","words","kind","chosen","cover","waiting","hole"] ["book","words","kind"] (ak E7):=⟨rfl,rfl,rfl,by decide+kernel,rfl,by decide+kernel,by decide+kernel⟩
theorem Nk (G:Gs w K mg κ) (h_laid_rule:j3 P w K mg base k "laid_rule" ["book","name","words","place","kind"] (nu κ)) (h_last_hole_first:Has P w K mg base k "last_hole_first" ["book","step"] Ah) (h_rules_of_table:Has P w K mg base k "rules_of_table" ["book","words"] za) (D:Def K mg "cheapest" E7 ["book","words","kind"]):j3 P w K mg base (k+1) "cheapest" ["book","words","kind"] (vh κ):=by
 refine D.hasX Fo (λvs H Q E h=>?_) (λf cdv A outer s H vs Q E hr h=>?_)
 ·obtain ⟨_,_,_,_,_,_,rfl,_,_,_,_,_,_,_,_,_⟩:=h;rfl
 have nd:=Fo.nd;have hu:=b8 hr;have hu0:=aah hu;obtain ⟨b,wt,kd,kinds,rs,ws,rfl,hB,hW,bk,tw,hkd,kz,rz,q,e⟩:=h;have m_NoCover:=G.er.m_noCover;have m_len:=G.m_len;have m_tuple:=G.m_tuple;refine ⟨_,(A4 (A6 3 nd (AG h_rules_of_table hr (A1 (A0 0) (A1 (A0 1) (A3 0))))) (A4 (AB (BK (@ox _ _ _ _ _ hu (AH (A1 (A2 0) (A1 (A0 2) (A3 0)))) (A0 3)) (by first | exact dq _ (by decide) (by decide) | rfl)) (A7 (CC G.er.x_noCover G.i_NoCover hr m_NoCover (A1 (@Od _ _ _ _ _ _ _ _ (A0 2) (by decide+kernel)) (A3 0)))) (AK 0)) (A4 (A6 4 nd (AD (A3 0))) (A4 (A6 5 nd (AD (A1 (AH (A1 (A2 0) (A1 (A0 2) (A3 0)))) (A3 0)))) (A4 (@Ar _ _ _ _ _ _ (@ua _ _ zd) (AA (BB 0) (AR (AX 0) m_len d4 (A1 (A0 5) (A3 0))) (A2 0) (A9 0)) (A4 (A6 6 nd (BY PySem.F.plainAttrs_list PySem.F.slot_list_pop PySem.F.type_list_pop (@oo _) (A0 5))) (A4 (AO (AQ PySem.F.plainAttrs_list PySem.F.slot_list_append PySem.F.type_list_append (AU 0) (A0 4) (A1 (BN hu (A0 3) (A0 6)) (A3 0)))) (A7 (AO (AQ PySem.F.plainAttrs_list PySem.F.slot_list_extend PySem.F.type_list_extend (@k8 _) (A0 5) (A1 (AG h_last_hole_first hr (A1 (A0 0) (A1 (CI h_laid_rule hr (A1 (A0 0) (A1 (BN hu (A0 3) (A0 6)) (A1 (A0 1) (A1 (A8 (AF 0) (A0 6) (A2 0)) (A1 (A8 (AF 0) (A0 6) (A2 0)) (A3 0))))))) (A3 0)))) (A3 0)))))))) (A7 (AC (AZ (BA 0) m_tuple dh (A1 (A0 4) (A3 0)))))))))),?_⟩;rw[show start ["book","words","kind","chosen","cover","waiting","hole"] [.ref b,.ref wt,.str kd]=[some (.ref b),some (.ref wt),some (.str kd),none,none,none,none] from rfl];clear hu hu0 nd hr;push_cast [and_true];have sz:=sizeLine_eq;refine O2 hB hW bk tw λd H1 g s1 hd T C1=>?_;refine ⟨by show (2:Nat)≤sizeLine;decide,λp hp=>⟨d,rfl,_,(C1.same (aa hp _)).get (k:=(0,kd)) ae,?_⟩⟩;have q2:=aa hp (.tup [V.int 0,V.str kd]);have s2:=s1.trans q2;have C2:=C1.same q2;generalize upd H1 p (.tup [V.int 0,V.str kd])=H2 at q2 s2 C2 ⊢;cases ek:g (0,kd) with
 | none=>
  refine ifY rfl ?_;push_cast [ny,Bh];exact ⟨hkd.1,by have:=hkd.2;omega,λm=>⟨by show (1:Nat)≤100;decide,e H2 g s2 T ek⟩⟩
 | some v=>
  refine ifN (by simp) ⟨aa7 _,λcl hcl=>⟨by show (2:Nat)≤sizeLine;decide,λp2 hp2=>⟨by show (1:Nat)≤sizeLine;decide,λwl hwl=>?_⟩⟩⟩;have s3:=aa hcl (.lst []);have s4:=aa hp2 (.tup [V.int 0,V.str kd]);have s5:=aa hwl (.lst [V.ref p2]);have S5:=s2.trans (s3.trans (s4.trans s5));have C5:=C2.same (s3.trans (s4.trans s5));have fcl:=s2.free hcl;have fwl:=(s2.trans (s3.trans s4)).free hwl;have ncw:cl≠wl:=af (s4 _ _ (ae (H:=H2) (a:=cl) (o:=.lst []))) hwl;have c5:=(s4.trans s5) _ _ (ae (H:=H2) (a:=cl) (o:=.lst []));have p5:=s5 _ _ (ae (H:=upd H2 cl (.lst [])) (a:=p2) (o:=.tup [V.int 0,V.str kd]));have w5:upd (upd (upd H2 cl (.lst [])) p2 (.tup [V.int 0,V.str kd])) wl (.lst [V.ref p2]) wl=some (.lst [V.ref p2]):=ae;generalize upd (upd (upd H2 cl (.lst [])) p2 (.tup [V.int 0,V.str kd])) wl (.lst [V.ref p2])=H5 at s5 S5 C5 c5 p5 w5 ⊢;have wp:=tw.pos;obtain ⟨P1,eP1⟩:∃P1:L2.St→Hp→Prop,∀σ H',P1 σ H'↔∃(bs:List Addr) (done:List Str) (st:List Ky) (v6:Option V),σ=[some (.ref b),some (.ref wt),some (.str kd),some (.ref d),some (.ref cl),some (.ref wl),v6]∧ah H H'∧l8 H' d kinds rs ws g∧H' cl=some (.lst (done.map V.str))∧H' wl=some (.lst (bs.map V.ref))∧KsL H' bs st.reverse∧Prd g st∧done.length+jq kinds ws g st≤61000∧done++cov kinds rs ws g st=cov kinds rs ws g [(0,kd)]:=⟨_,λ_ _=>abi⟩;refine j9 P1 (λ_ H'=>61000 - ng H' cl) ((eP1 _ _).mpr ⟨[p2],[],[(0,kd)],none,rfl,S5,C5,c5,w5,KsL.one p5,λk hk=>?_,by have:=Bg bk tw g kd wp;show 0+_≤_;omega,rfl⟩) ?_ ?_
  ·rw[List.mem_singleton.mp hk];exact ⟨v,ek,T.pos _ _ ek⟩
  ·intro σ H6 hh;obtain ⟨bs,done,st,v6,rfl,s6,C6,c6,w6,K6,pr6,l6,e6⟩:=(eP1 _ _).mp hh;push_cast [and_true];have bl:=K6.1;rw[aaz] at bl;refine ⟨_,.inl (SqL.of w6),?_⟩;rw[aa1,bl];cases st with
   | nil=>
    refine ifN (by decide) ⟨_,.inl ⟨SqL.of c6,λt ht=>?_⟩⟩;have st:=aa ht (.tup (done.map V.str));rw[Qy,ab3] at e6;refine q t _ g v (s6.trans st) (s6.free ht) T ek ?_;rw[ae,e6]
   | cons k st=>
    obtain ⟨bs',a,rfl,K6',hk⟩:=K6.pop;obtain ⟨vk,hvk,_⟩:=pr6 k aa9;obtain ⟨i,r,u,h1,h2,h3,h4,h5,h6,h7,h8⟩:=rj bk T hvk;obtain ⟨pr',_⟩:=pr6.step bk T;have ph:=yh bk tw T pr6;have lp:=Ba kinds ws g (yy kinds rs ws (pick kinds rs ws g k) k.1++st);rw[K1 bk T pr6] at e6;refine ifY (by rw[aai];omega) ?_;rw[aa6] at w6;refine qf (xs:=bs'.map V.ref) (y:=.ref a) w6 ?_;have sA:=s6.upd fwl (.lst (bs'.map V.ref));have tkA:TK H6 (upd H6 wl (.lst (bs'.map V.ref))):=TK.put w6 (λ_ z=>nomatch z);have wA:upd H6 wl (.lst (bs'.map V.ref)) wl=some (.lst (bs'.map V.ref)):=ae;have cA:upd H6 wl (.lst (bs'.map V.ref)) cl=some (.lst (done.map V.str)):=by rw[ag ncw];exact c6
    have CA:l8 (upd H6 wl (.lst (bs'.map V.ref))) d kinds rs ws g:=C6.at λo h=>by rw[ag (C6.ne w6)];exact h
    have hkA:upd H6 wl (.lst (bs'.map V.ref)) a=some (kyT k):=tkA _ _ hk;have KA:=K6'.tk tkA;generalize upd H6 wl (.lst (bs'.map V.ref))=HA at sA tkA wA cA CA hkA KA ⊢;have gA:=CA.get hkA;rw[hvk] at gA;have sB:=sA.upd fcl (.lst (done.map V.str++[V.str (pick kinds rs ws g k)]));have tkB:TK HA (upd HA cl (.lst (done.map V.str++[V.str (pick kinds rs ws g k)]))):=TK.put cA (λ_ z=>nomatch z);have wB:upd HA cl (.lst (done.map V.str++[V.str (pick kinds rs ws g k)])) wl=some (.lst (bs'.map V.ref)):=by rw[ag ncw.symm];exact wA
    have cB:upd HA cl (.lst (done.map V.str++[V.str (pick kinds rs ws g k)])) cl=some (.lst (done.map V.str++[V.str (pick kinds rs ws g k)])):=ae;have CB:l8 (upd HA cl (.lst (done.map V.str++[V.str (pick kinds rs ws g k)]))) d kinds rs ws g:=CA.at λo h=>by rw[ag (CA.ne cA)];exact h
    have hkB:upd HA cl (.lst (done.map V.str++[V.str (pick kinds rs ws g k)])) a=some (kyT k):=tkB _ _ hkA;have KB:=KA.tk tkB;refine ⟨ax cA,_,gA,(bb (K:=K) cA (by rw[aa1];omega) ?_).2⟩;generalize upd HA cl (.lst (done.map V.str++[V.str (pick kinds rs ws g k)]))=HB at sB tkB wB cB CB hkB KB ⊢;have gB:=CB.get hkB;rw[hvk] at gB;have rm:=aaf h1;have hru:cz kinds rs ws (pick kinds rs ws g k) k.2 k.1=some (r,u):=by
     rw[←h2,←h3,ux bk h1,h4];rfl
    refine ⟨ax wB,_,gB,au hkB rfl (au hkB rfl (De (hB.same sB) (sB _ _ hW) bk tw h8 (h2 ▸ rz r rm) (h3 ▸ kz _ (bk.rk r rm)) (λdd hdd t HC sC hst=>?_) λhno=>absurd (hno.symm.trans hru) (λz=>nomatch z)))⟩;obtain rfl:(r,u)=dd:=aa3 (hru.symm.trans hdd);have SC:=sB.trans sC;have hl:u.hs.length=(aq kinds r.shape).length:=by
     have:=(jm bk.kd _ _ _ _ (bk.sh r rm).1 h4).1;simpa using this
    refine Kw (r:=r) (u:=u) (hB.same SC) bk rm hst hl λl2 HD sD hl2 hKs=>?_;obtain ⟨cs,e1,KL⟩:=hKs.l;have csl:=KL.1;have bl':=KA.1;rw[aaz] at csl bl';rw[h5] at pr' ph lp e6;rw[aa2] at lp;have sBD:=sC.trans sD;have wD:=sBD _ _ wB;have CD:=CB.same sBD;have tkD:TK HD (upd HD wl (.lst (bs'.map V.ref++cs.map V.ref))):=TK.put wD (λ_ z=>nomatch z);have cD:upd HD wl (.lst (bs'.map V.ref++cs.map V.ref)) cl=some (.lst ((done++[pick kinds rs ws g k]).map V.str)):=by rw[ag ncw,aa6];exact sBD _ _ cB
    have dl:(done++[pick kinds rs ws g k]).length=done.length+1:=by rw[aa2];rfl
    refine ⟨wl,l2,bs'.map V.ref,cs.map V.ref,rfl,rfl,wD,e1,by rw[aa1,aa1];omega,(eP1 _ _).mpr ⟨bs'++cs,done++[pick kinds rs ws g k],u.hs.zip (aq kinds r.shape)++st,_,rfl,(sB.trans sBD).upd fwl _,CD.at λo h=>by rw[ag (CD.ne wD)];exact h,cD,by rw[ae,aa6],?_,pr',by omega,by rw[abo];exact e6⟩,?_⟩
    ·rw[aer];exact ((KB.tk (TK.of sBD)).app KL).tk tkD
    ·rw[i7 cD,i7 c6,aa1,aa1];omega
  ·intro σ H6 Q1 Q2 h c;exact L4 h c
noncomputable abbrev Ku:Stmt:=top 29
theorem Ju:av ["deck","cells","at"] ["deck"] (ak Ku):=⟨rfl,rfl,rfl,by decide+kernel,rfl,by decide+kernel,by decide+kernel⟩
theorem hasNext (G:Gs w K mg κ) (D:Def K mg "_law_next" Ku ["deck"]):Has P w K mg base (k+1) "_law_next" ["deck"] jw:=by
 refine D.has Ju (λvs H Q E h=>?_) (λf cdv A outer s H vs Q E hr h=>?_)
 ·obtain ⟨_,_,_,_,rfl,_,_,_⟩:=h;rfl
 have nd:=Ju.nd;have hu:=b8 hr;have hu0:=aah hu;obtain ⟨d,b,ns,n,rfl,hD,hn,q⟩:=h;have m_len:=G.m_len;refine ⟨_,(A4 (A6 1 nd (A8 (AW 0) (A0 0) (A2 0))) (A4 (A6 2 nd (A8 (AW 0) (A0 0) (A2 0))) (A4 (CJ (A5 (AN 0) (A0 2) (A2 0)) (@K2 _ _ _ _ _ _ _ (A0 0) (A2 0) (@set_list _) (by intro _;rfl))) (A4 (AB (AA (@pf _) (A0 2) (AR (AX 0) m_len d4 (A1 (A0 1) (A3 0))) (A9 0)) (A7 (AC (A8 (AW 0) (A0 1) (A0 2)))) (AK 0)) (A4 (AB (AA (AM 0) (AR (AX 0) m_len d4 (A1 (A0 1) (A3 0))) (A2 0) (A9 0)) (A7 (AC (A5 (AN 0) (A5 (@yz _) (A5 (@yz _) (A0 2) (A0 2)) (A2 0)) (A0 2)))) (AK 0)) (A7 (AC (A5 (AN 0) (A5 (AT 0) (A8 (AW 0) (A0 1) (A5 (AE 0) (A0 2) (AR (AX 0) m_len d4 (A1 (A0 1) (A3 0))))) (A2 0)) (A5 (@yz _) (A0 2) (A0 2)))))))))),?_⟩;rw[show start ["deck","cells","at"] [.ref d]=[some (.ref d),none,none] from rfl];clear hu hu0 nd hr;push_cast [rIxL,gSub,J1,om,CMul];have nb:=hD.ne;obtain ⟨h1,h2⟩:=hD;refine ⟨_,SqL.of h1,.ref b,rfl,_,SqL.of h1,.int (n:Int),rfl,?_⟩;push_cast [and_true];have h3:upd H d (.lst [.ref b,.int ((n:Int)+1)]) b=some (.lst (ns.map V.int)):=by rw[ag nb];exact h2
 have hS:ao d H (upd H d (.lst [.ref b,.int ((n:Int)+1)])):=λc o hc ho=>by rw[ag hc];exact ho
 have hD':upd H d (.lst [.ref b,.int ((n:Int)+1)]) d=some (.lst [.ref b,.int ((n+1:Nat):Int)]):=ae;refine ⟨_,h1,1,rfl,ns.map V.int,.inl (SqL.of h3),bz (λc=>?_) λc=>⟨ns.map V.int,.inl (SqL.of h3),rfl,bz (λc2=>?_) λc2=>?_⟩⟩
 ·rw[aa1] at c;have hlt:n < ns.length:=by omega
  exact ⟨_,SqL.of h3,.int ns[n],bg (by rw[aaa,aa0 hlt];rfl),q _ _ hS hD'⟩
 ·exact ⟨.inl ⟨by omega,by omega⟩,.inr trivial,q _ _ hS hD'⟩
 ·rw[aa1] at c2;have hpos:0 < ns.length:=by omega
  have hlt:n % ns.length < ns.length:=Nat.mod_lt _ hpos;refine ⟨ns.map V.int,.inl (SqL.of h3),by rw[aa1];omega,_,SqL.of h3,.int ns[n % ns.length],?_,by decide,by decide,.inl ⟨by omega,by omega⟩,q _ _ hS hD'⟩;rw[aa1,show (n:Int) % (ns.length:Int)=((n % ns.length:Nat):Int) from (Int.natCast_emod _ _).symm];exact bg (by rw[aaa,aa0 hlt];rfl)
noncomputable abbrev Jm:Stmt:=top 35
theorem M0:av ["words","ends","stack","back","at","end"] ["words"] (ak Jm):=⟨rfl,rfl,rfl,by decide+kernel,rfl,by decide+kernel,by decide+kernel⟩
theorem Pm (G:Gs w K mg κ) (D:Def K mg "_law_ends" Jm ["words"]):Has P w K mg base (k+1) "_law_ends" ["words"] (Dy K):=by
 refine D.has M0 (λvs H Q E h=>?_) (λf cdv A outer s H vs Q E hr h=>?_)
 ·obtain ⟨_,_,rfl,_,_,_,_,_⟩:=h;rfl
 have nd:=M0.nd;have hu:=b8 hr;have hu0:=aah hu;obtain ⟨t,ws,rfl,hT,hw,hTm,hl,q⟩:=h;have m_len:=G.m_len;have m_range:=G.m_range;refine ⟨_,(A4 (A6 1 nd (A5 (@op_rep _) (AD (A1 (A2 0) (A3 0))) (AR (AX 0) m_len d4 (A1 (A0 0) (A3 0))))) (A4 (A6 2 nd (AD (A3 0))) (A4 (AY (BU m_range (A1 (AR (AX 0) m_len d4 (A1 (A0 0) (A3 0))) (A3 0))) (AL 3 nd (by first | exact ab1 rfl | exact ab2 rfl)) (A4 (A6 4 nd (A5 (B0 0) (A5 (B0 0) (AR (AX 0) m_len d4 (A1 (A0 0) (A3 0))) (A2 0)) (A0 3))) (A4 (A6 5 nd (A5 (AN 0) (A0 4) (A2 0))) (BC (AB (BG (BL 0) (A8 (AF 0) (A0 0) (A0 4)) (AD (BD (AI (AI (AI (BE 0))))))) (A7 (AO (BY PySem.F.plainAttrs_list PySem.F.slot_list_pop PySem.F.type_list_pop (@oo _) (A0 2)))) (AK 0)) (BC (AB (BG (BL 0) (A8 (AF 0) (A0 0) (A0 4)) (AD (BD (AI (AI (AI (AI (BE 0)))))))) (A7 (A6 5 nd (BY PySem.F.plainAttrs_list PySem.F.slot_list_pop PySem.F.type_list_pop (@oo _) (A0 2)))) (AK 0)) (A4 (AO (AQ PySem.F.plainAttrs_list PySem.F.slot_list_append PySem.F.type_list_append (AU 0) (A0 2) (A1 (A0 5) (A3 0)))) (A7 (CJ (A0 5) (@K2 _ _ _ _ _ _ _ (A0 1) (A0 4) (@set_list _) (by intro _;rfl)))))))))) (A7 (AC (A0 1)))))),?_⟩;rw[show start ["words","ends","stack","back","at","end"] [.ref t]=[some (.ref t),none,none,none,none,none] from rfl];clear hu hu0 nd hr;push_cast [and_true];have sz:=sizeLine_eq;refine ⟨by show (1:Nat)≤sizeLine;decide,λp0 hp0=>⟨ws,.inr ((aa hp0 _).tup hT),Qj ae (by omega) (by omega) λel hel=>⟨aa7 _,λsp hsp=>⟨ws,.inr ((((aa hp0 _).trans (aa hel _)).trans (aa hsp _)).tup hT),by omega,by omega,?_⟩⟩⟩⟩;rw[show ((ws.length:Nat):Int).toNat=ws.length by omega] at hsp ⊢;have S1:=aa hp0 (.lst [V.int 0]);have fe:=S1.free hel;have S2:=S1.trans (aa hel (.lst (aak ws.length (V.int 0))));have fs:=S2.free hsp;have S3:=S2.trans (aa hsp (.lst []));have nes:el≠sp:=af ae hsp;have e3:=aa hsp (.lst []) _ _ (ae (H:=upd H p0 (.lst [V.int 0])) (a:=el) (o:=.lst (aak ws.length (V.int 0))));have p3:upd (upd (upd H p0 (.lst [V.int 0])) el (.lst (aak ws.length (V.int 0)))) sp (.lst []) sp=some (.lst []):=ae;generalize upd (upd (upd H p0 (.lst [V.int 0])) el (.lst (aak ws.length (V.int 0)))) sp (.lst [])=H3 at S3 e3 p3 ⊢;obtain ⟨P1,eP1⟩:∃P1:Nat→L2.St→Hp→Prop,∀j σ H',P1 j σ H'↔∃v3 v4 v5:Option V,σ=[some (.ref t),some (.ref el),some (.ref sp),v3,v4,v5]∧ah H H'∧H' sp=some (.lst (((ub ws (ws.length - j)).drop 1).reverse.map plV))∧H' el=some (.lst (aak (ws.length - j) (V.int 0)++(aaq j).map λi=>plV (endAt ws (ws.length - j+i)))):=⟨_,λ_ _ _=>abi⟩;refine gc (lo:=0) P1 ?_ ?_ ?_
 ·refine (eP1 _ _ _).mpr ⟨none,none,none,rfl,S3,?_,?_⟩
  ·rw[ace,Ng];exact p3
  ·rw[e3];simp
 ·intro j σ H5 hj hh;refine ob3 ((eP1 _ _ _).mp hh) λv3 v4 v5 hh=>?_;have s5:=hh.2.1;have p5:=hh.2.2.1;have e5:=hh.2.2.2;obtain rfl:=hh.1;clear hh;obtain ⟨p,hp⟩:∃p,p+j+1=ws.length:=⟨ws.length - 1 - j,by omega⟩;rw[show ws.length - j=p+1 by omega] at p5 e5;have ej:(λ_:Unit=>ws.length - (j+1))=λ_=>p:=by funext _;omega
  have hpl:p < ws.length:=by omega
  have hx:ws[p]?=some ws[p]:=aa0 hpl;have hxw:=hw _ (ab7 hpl);have hat:atI ws (p:Int)=some ws[p]:=bg hx;generalize ws[p]=x at hx hxw hat;obtain ⟨tp,u,tu⟩:=O9 hTm hx;push_cast [and_true];refine ⟨ws,.inr (s5.tup hT),?_⟩;rw[show ((ws.length:Int) - 1 - (0+(j:Int)))=(p:Int) by omega];obtain ⟨E',hT'⟩:=Hi ws (p:=p+1) (by omega);rw[hT'] at p5 tp tu;have p5:H5 sp=some (.lst (E'.reverse.map plV)):=p5;have three:=Ci hxw;have four:=zy hxw;have ar2:=tj x;have rp:∀(y:Nat) (L:List Nat),((y::L).reverse.map plV)=L.reverse.map plV++[plV y]:=λy L=>by rw[ach,aa6];rfl
  refine dy (λσ' H6=>σ'=[some (.ref t),some (.ref el),some (.ref sp),some (.int (0+(j:Int))),some (.int (p:Int)),some (.int ((p:Int)+1))]∧ah H H6∧H6 el=H5 el∧H6 sp=some (.lst ((if arV x=2 then E'.drop 1 else E').reverse.map plV))) ?_ ?_
  ·push_cast [rIn];refine ⟨t,ws,_,x,rfl,rfl,s5.tup hT,hat,by show (3:Nat)≤sizeLine;decide,λa ha=>⟨_,.inl (SqL.of ae),hxw.flat,rfl,bz (λc2=>?_) λc2=>?_⟩⟩
   ·have a2:=three.mp c2;rw[a2] at tu;rw[if_pos a2];cases E' with
    | nil=>cases tu
    | cons e1 E2=>
     rw[rp] at p5;exact qf (aa ha _ _ _ p5) ⟨(s5.trans (aa ha _)).upd fs _,by rw[ag nes,aa ha _ _ _ e5,e5],by rw[ae];rfl⟩
   ·rw[if_neg λe=>c2 (three.mpr e)];exact ⟨s5.trans (aa ha _),by rw[aa ha _ _ _ e5,e5],aa ha _ _ _ p5⟩
  rintro _ H6 ⟨rfl,s6,e6,p6⟩;refine dy (λσ' H7=>σ'=[some (.ref t),some (.ref el),some (.ref sp),some (.int (0+(j:Int))),some (.int (p:Int)),some (plV (endAt ws p))]∧ah H H7∧H7 el=H5 el∧H7 sp=some (.lst (u.reverse.map plV))) ?_ ?_
  ·push_cast [rIn];refine ⟨t,ws,_,x,rfl,rfl,s6.tup hT,hat,by show (4:Nat)≤sizeLine;decide,λa ha=>⟨_,.inl (SqL.of ae),hxw.flat,rfl,bz (λc2=>?_) λc2=>?_⟩⟩
   ·have a1:=four.mp c2;have hE:(if arV x=2 then E'.drop 1 else E')=endAt ws p::u:=by
     by_cases a2:arV x=2
     ·rw[if_pos a2];rw[a2] at tu;exact tu
     ·rw[if_neg a2];rw[show arV x=1 by omega] at tu;exact tu
    rw[hE,rp] at p6;exact qf (aa ha _ _ _ p6) ⟨rfl,(s6.trans (aa ha _)).upd fs _,by rw[ag nes,aa ha _ _ _ (e6.trans e5),e5],ae⟩
   ·have a0:arV x=0:=by
     rcases abl (arV x) with h | h
     ·exact h
     ·exact absurd (four.mpr h) c2
    rw[a0] at tu p6;have tu:(p+1)::E'=endAt ws p::u:=tu;obtain ⟨y1,y2⟩:=abh tu;rw[if_neg (by decide),y2] at p6;exact ⟨by omega,s6.trans (aa ha _),by rw[aa ha _ _ _ (e6.trans e5),e5],aa ha _ _ _ p6⟩
  rintro _ H7 ⟨rfl,s7,e7,p7⟩;push_cast [gSub,J1];have tl:=Jh ws p;rw[tp,tu,aai,aai] at tl;refine bb p7 (by rw[aa1,aaz];omega) ⟨_,by rw[ag nes];exact e7.trans e5,p,Rb (by rw[aa2,abb];omega),(eP1 _ _ _).mpr ⟨_,_,_,rfl,(s7.upd fs _).upd fe _,?_,?_⟩⟩
  ·rw[show ws.length - (j+1)=p from congrFun ej (),ag nes.symm,ae,tp,tu];show _=some (HO.lst ((endAt ws p::u).reverse.map plV))
   rw[rp]
  ·rw[show ws.length - (j+1)=p from congrFun ej (),ae,Kr,List.range_succ_eq_map,aaw,ac3];show some (HO.lst (_++plV (endAt ws p)::aei (λi=>plV (endAt ws (p+1+i))) (aaq j)))=some (HO.lst (_++plV (endAt ws (p+0))::aei ((λi=>plV (endAt ws (p+i))) ∘ Nat.succ) (aaq j)))
   have ef:((λi=>plV (endAt ws (p+i))) ∘ Nat.succ)=λi=>plV (endAt ws (p+1+i)):=by
    funext i
    show plV (endAt ws (p+(i+1)))=_
    rw[show p+(i+1)=p+1+i by omega]
   rw[ef];rfl
 ·intro σ H5 hh;refine ob3 ((eP1 _ _ _).mp hh) λv3 v4 v5 hh=>?_;have s5:=hh.2.1;have p5:=hh.2.2.1;have e5:=hh.2.2.2;obtain rfl:=hh.1;clear hh;push_cast [and_true];refine q el H5 s5 fe ?_;rw[e5,acx];simp
noncomputable abbrev Ds:Stmt:=top 36
theorem Fq:av ["kinds","shape","words","ends","place","under","word","there"] ["kinds","shape","words","ends","place"] (ak Ds):=⟨rfl,rfl,rfl,by decide+kernel,rfl,by decide+kernel,by decide+kernel⟩
theorem Md (G:Gs w K mg κ) (D:Def K mg "_law_laid" Ds ["kinds","shape","words","ends","place"]):Has P w K mg base (k+1) "_law_laid" ["kinds","shape","words","ends","place"] (rh K):=by
 refine D.has Fq (λvs H Q E h=>?_) (λf cdv A outer s H vs Q E hr h=>?_)
 ·obtain ⟨_,_,_,_,_,_,_,_,rfl,_,_,_,_,_,_,_,_,_,_,_⟩:=h;rfl
 have nd:=Fq.nd;have hu:=b8 hr;have hu0:=aah hu;obtain ⟨st,kt,wt,et,sh,kinds,ws,p,rfl,hS,hK,hW,hE,hk,hs,hTm,hl1,tw,hp,q⟩:=h;have m_int:=G.m_int;have m_isinstance:=G.m_isinstance;have m_str:=G.m_str;have m_tuple:=G.m_tuple;refine ⟨_,(A4 (A6 5 nd (AD (A1 (AD (A3 0)) (A1 (AD (A3 0)) (A1 (AD (A3 0)) (A3 0)))))) (A4 (AY (BJ (A0 1)) (AL 6 nd (by first | exact ab1 rfl | exact ab2 rfl)) (A4 (A6 7 nd (A8 (AF 0) (A0 2) (A0 4))) (A7 (AB (BG (BL 0) (A0 6) (A0 0)) (A4 (AO (AQ PySem.F.plainAttrs_list PySem.F.slot_list_append PySem.F.type_list_append (AU 0) (A8 (AW 0) (A0 5) (A2 0)) (A1 (A0 4) (A3 0)))) (A7 (A6 4 nd (A8 (AW 0) (A0 3) (A0 4))))) (A7 (AB (B8 (BF (AA (AM 0) (A0 6) (AJ 0) (A9 0)) (BI (C0 (AR (@gg _) m_isinstance fj (A1 (A0 7) (A1 (BZ m_int t8) (A3 0)))))))) (A4 (AO (AQ PySem.F.plainAttrs_list PySem.F.slot_list_append PySem.F.type_list_append (AU 0) (A8 (AW 0) (A0 5) (A2 0)) (A1 (A0 7) (A3 0)))) (A7 (A6 4 nd (A5 (AN 0) (A0 4) (A2 0))))) (A7 (AB (B8 (BF (AA (AM 0) (A0 6) (AJ 0) (A9 0)) (BF (C0 (AR (@gg _) m_isinstance fj (A1 (A0 7) (A1 (BZ m_str Gz) (A3 0))))) (BI (BG (@yw _) (A0 7) (AD (BD (AI (AI (AI (AI (BE 0)))))))))))) (A4 (AO (AQ PySem.F.plainAttrs_list PySem.F.slot_list_append PySem.F.type_list_append (AU 0) (A8 (AW 0) (A0 5) (A2 0)) (A1 (A0 7) (A3 0)))) (A7 (A6 4 nd (A5 (AN 0) (A0 4) (A2 0))))) (A7 (AB (AA (AM 0) (A0 6) (A0 7) (A9 0)) (A7 (A6 4 nd (A5 (AN 0) (A0 4) (A2 0)))) (A7 (AC (@o7 _ _ _))))))))))))) (A7 (AC (AH (A1 (AZ (BA 0) m_tuple dh (A1 (A8 (AW 0) (A0 5) (A2 0)) (A3 0))) (A1 (AZ (BA 0) m_tuple dh (A1 (A8 (AW 0) (A0 5) (A2 0)) (A3 0))) (A1 (AZ (BA 0) m_tuple dh (A1 (A8 (AW 0) (A0 5) (A2 0)) (A3 0))) (A3 0))))))))),?_⟩;rw[show start ["kinds","shape","words","ends","place","under","word","there"] [.ref kt,.ref st,.ref wt,.ref et,.int (p:Int)]=[some (.ref kt),some (.ref st),some (.ref wt),some (.ref et),some (.int (p:Int)),none,none,none] from rfl];clear hu hu0 nd hr;push_cast [and_true];have sz:=sizeLine_eq;have hw:=λv hv=>(tw.w v hv).1;obtain ⟨n,he⟩:=tw.eat hp;refine ⟨aa7 _,λl1 h1=>⟨aa7 _,λl2 h2=>⟨aa7 _,λl3 h3=>⟨by show (3:Nat)≤sizeLine;decide,λu0 h0=>?_⟩⟩⟩⟩;have n21:l2≠l1:=(af ae h2).symm;have n31:l3≠l1:=(af (aa h2 _ _ _ ae) h3).symm;have n32:l3≠l2:=(af ae h3).symm;have n10:u0≠l1:=(af (aa h3 _ _ _ (aa h2 _ _ _ ae)) h0).symm;have n20:u0≠l2:=(af (aa h3 _ _ _ ae) h0).symm;have n30:u0≠l3:=(af ae h0).symm;have S1:=aa h1 (.lst []);have f2:=S1.free h2;have S2:=S1.trans (aa h2 (.lst []));have f3:=S2.free h3;have S3:=S2.trans (aa h3 (.lst []));have S4:=S3.trans (aa h0 (.lst [.ref l1,.ref l2,.ref l3]));have U4:l7 (upd (upd (upd (upd H l1 (.lst [])) l2 (.lst [])) l3 (.lst [])) u0 (.lst [.ref l1,.ref l2,.ref l3])) u0 l1 l2 l3 ⟨[],[],[]⟩:=
  ⟨ae,by rw[ag n10.symm,ag n31.symm,ag n21.symm,ae];rfl,by rw[ag n20.symm,ag n32.symm,ae],by rw[ag n30.symm,ae]⟩
 generalize upd (upd (upd (upd H l1 (.lst [])) l2 (.lst [])) l3 (.lst [])) u0 (.lst [.ref l1,.ref l2,.ref l3])=H4 at S4 U4 ⊢;obtain ⟨P1,eP1⟩:∃P1:Nat→L2.St→Hp→Prop,∀i σ H',P1 i σ H'↔∃(q':Nat) (u:Und) (v6 v7:Option V),σ=[some (.ref kt),some (.ref st),some (.ref wt),some (.ref et),some (.int (q':Int)),some (.ref u0),v6,v7]∧ah H H'∧l7 H' u0 l1 l2 l3 u∧bo kinds ws (sh.drop i) q' u=bo kinds ws sh p ⟨[],[],[]⟩∧(u.hs.length≤i∧u.ns.length≤i∧u.vs.length≤i)∧Dr u∧∃d m,pend d ((sh.drop i).map arV)=some 0∧eat d ((ws.drop q').map arV)=some m:=⟨_,λ_ _ _=>abi⟩;refine ⟨⟨sh,S4.tup hS⟩,gu (xs:=sh) P1 ((eP1 _ _ _).mpr ⟨p,⟨[],[],[]⟩,none,none,rfl,S4,U4,rfl,⟨aa7 _,aa7 _,aa7 _⟩,⟨(λ_ h=>nomatch h),(λ_ h=>nomatch h)⟩,1,n,hTm,he⟩) (λi σ H' _ h=>by obtain ⟨_,_,_,_,_,s,_⟩:=(eP1 _ _ _).mp h;exact s.tup hS) ?_ ?_⟩
 ·intro i v σ H5 hvi hh;refine ob4 ((eP1 _ _ _).mp hh) λq' u v6 v7 hh=>?_;have s5:=hh.2.1;have U5:=hh.2.2.1;have e5:=hh.2.2.2.1;have hul:=hh.2.2.2.2.1;have huw:=hh.2.2.2.2.2.1;have hdm:=hh.2.2.2.2.2.2;obtain rfl:=hh.1;clear hh;obtain ⟨d,m,hp5,he5⟩:=hdm;have fin:∀(q2:Nat) (z:Int) (u2:Und) (w6 w7:Option V) (H':Hp),z=(q2:Int)→ah H H'→l7 H' u0 l1 l2 l3 u2→bo kinds ws (sh.drop (i+1)) q2 u2=bo kinds ws sh p ⟨[],[],[]⟩→(u2.hs.length≤i+1∧u2.ns.length≤i+1∧u2.vs.length≤i+1)→Dr u2→(∃d m,pend d ((sh.drop (i+1)).map arV)=some 0∧eat d ((ws.drop q2).map arV)=some m)→P1 (i+1) [some (.ref kt),some (.ref st),some (.ref wt),some (.ref et),some (.int z),some (.ref u0),w6,w7] H':=λq2 z u2 w6 w7 H' ez a1 a2 a3 a4 a5 a6=>(eP1 _ _ _).mpr ⟨q2,u2,w6,w7,by rw[ez],a1,a2,a3,a4,a5,a6⟩;have hil:i < sh.length:=(List.getElem?_eq_some_iff.mp hvi).1;have ed:sh.drop i=v::sh.drop (i+1):=by
   rw[aax hil];congr 1
   rw[aa0 hil] at hvi;exact aa3 hvi
  rw[ed] at e5 hp5;obtain ⟨d',rfl⟩:∃d',d=d'+1:=by
   cases d with
   | zero=>cases hp5
   | succ d'=>exact ⟨d',rfl⟩
  have hq:q' < ws.length:=by
   have a1:=Aa _ _ _ he5;have a2:=qd _ _ _ he5;rw[aa1,aan] at a2;omega
  have hx:ws[q']?=some ws[q']:=aa0 hq;obtain ⟨hxw,hxa,hxv⟩:=tw.w _ (ab7 hq);have hat:atI ws (q':Int)=some ws[q']:=bg hx;have hvw:=hs v (aaf hvi);have hgd:ws.getD q' .non=ws[q']:=by rw[aae,hx];rfl
  rw[fz,hgd] at e5;generalize ws[q']=x at hx hxw hxa hxv hat hgd e5;have hul':=u.F7 (br kinds v) q' x hul;have huw':=huw.put hxw (br kinds v) q';obtain ⟨b1,b2,b3,b4,b5,b6⟩:=lets;have fl:(kinds.map V.str).all il=true:=List.all_eq_true.mpr λx hx=>by obtain ⟨z,_,rfl⟩:=List.mem_map.mp hx;rfl
  push_cast [rIn];refine ⟨wt,ws,_,x,rfl,rfl,s5.tup hW,hat,_,.inr (s5.tup hK),hvw.flat,fl,?_⟩;have nav:¬g9=V.str (Str.ofString "var"):=by decide+kernel
  have nva:¬gm=V.str (Str.ofString "any"):=by decide+kernel
  rcases dv (kinds:=kinds) hvw with ⟨rfl,h⟩ | ⟨rfl,h⟩ | ⟨⟨z,hz,rfl⟩,h⟩ | ⟨h,hno⟩
  ·rw[if_neg (by rw[show inV g9 (kinds.map V.str)=false from hk.out (.inl rfl)];decide)];refine ⟨hvw.sc _,?_⟩;rw[if_pos (show g9=V.str (Str.ofString "any") from rfl)];obtain ⟨k',rfl⟩:=hxw;cases k' with
   | inl i0=>
    have hli:lies (br kinds g9) g9 (kV (Sum.inl i0))=true:=by unfold lies;rw[h,if_neg b1,if_pos rfl];rfl
    obtain ⟨d2,m2,hp6,he6⟩:=gr hk hvw hx ⟨_,rfl⟩ hp5 he5 hli;rw[if_pos hli,h,if_neg b1] at e5;rw[h,if_neg b1] at he6;rw[h] at hul' huw';exact ⟨_,.int i0,true,rfl,iteT (aw U5.1 rfl (bb U5.2.2.1 (by omega) (fin (q'+1) _ _ _ _ _ (by omega) (s5.upd f2 _) (U5.put2 n20 n21 n32 q' _) e5 hul' huw' ⟨d2,m2,hp6,he6⟩)))⟩
   | inr y=>
    have hli:¬lies (br kinds g9) g9 (kV (Sum.inr y))=true:=by unfold lies;rw[h,if_neg b1,if_pos rfl];exact aaj
    rw[if_neg hli] at e5;have z:=q H5 s5;rw[←e5] at z;refine ⟨_,.str y,false,rfl,iteF ⟨hvw.sc _,?_⟩⟩;rw[if_neg nav];refine ⟨hvw.sc2 ⟨_,rfl⟩,?_⟩;rw[if_neg λe=>hxa e.symm];exact z
  ·rw[if_neg (by rw[show inV gm (kinds.map V.str)=false from hk.out (.inr rfl)];decide)];refine ⟨hvw.sc _,?_⟩;rw[if_neg nva];refine ⟨hvw.sc _,?_⟩;rw[if_pos (show gm=V.str (Str.ofString "var") from rfl)];have hxw':=hxw;obtain ⟨k',rfl⟩:=hxw;cases k' with
   | inl i0=>
    have hli:¬lies (br kinds gm) gm (kV (Sum.inl i0))=true:=by unfold lies;rw[h,if_neg b2,if_neg b4,if_pos rfl];exact aaj
    rw[if_neg hli] at e5;have z:=q H5 s5;rw[←e5] at z;refine ⟨_,.int i0,false,rfl,iteF ⟨hvw.sc2 ⟨_,rfl⟩,?_⟩⟩;rw[if_neg λe=>hxv e.symm];exact z
   | inr y=>
    refine ⟨_,.str y,true,rfl,iteT ⟨by show (4:Nat)≤sizeLine;decide,λpl hpl=>⟨_,.inl (SqL.of ae),rfl,rfl,?_⟩⟩⟩;have four:=zy hxw';have s6:=s5.trans (aa hpl (.lst [V.str (Str.ofString "add"),V.str (Str.ofString "sub"),V.str (Str.ofString "mul"),V.str (Str.ofString "neg")]));have U6:=U5.same (aa hpl (.lst [V.str (Str.ofString "add"),V.str (Str.ofString "sub"),V.str (Str.ofString "mul"),V.str (Str.ofString "neg")]));by_cases c:0 < arV (kV (Sum.inr y))
    ·have hli:¬lies (br kinds gm) gm (kV (Sum.inr y))=true:=by
      unfold lies;rw[h,if_neg b2,if_neg b4,if_pos rfl,decide_eq_false (by omega),adk];decide
     rw[if_neg hli] at e5;have z:=q _ s6;rw[←e5] at z;rw[if_neg (by rw[show inV (kV (Sum.inr y)) [V.str (Str.ofString "add"),V.str (Str.ofString "sub"),V.str (Str.ofString "mul"),V.str (Str.ofString "neg")]=true from four.mpr c];decide)];refine ⟨hvw.sc2 ⟨_,rfl⟩,?_⟩;rw[if_neg λe=>hxv e.symm];exact z
    ·have hli:lies (br kinds gm) gm (kV (Sum.inr y))=true:=by
      unfold lies;rw[h,if_neg b2,if_neg b4,if_pos rfl,decide_eq_true (by omega),aen];rfl
     obtain ⟨d2,m2,hp6,he6⟩:=gr hk hvw hx ⟨_,rfl⟩ hp5 he5 hli;rw[if_pos hli,h,if_neg b2] at e5;rw[h,if_neg b2] at he6;rw[h] at hul' huw';have c':inV (kV (Sum.inr y)) [V.str (Str.ofString "add"),V.str (Str.ofString "sub"),V.str (Str.ofString "mul"),V.str (Str.ofString "neg")]=false:=Bool.eq_false_iff.mpr λe=>c (four.mp e);rw[if_pos (by rw[c'];decide)];exact aw U6.1 rfl (bb U6.2.2.2 (by omega) (fin (q'+1) _ _ _ _ _ (by omega) (s6.upd f3 _) (U6.put3 n30 n31 n32 q' _) e5 hul' huw' ⟨d2,m2,hp6,he6⟩))
  ·rw[if_pos (letH h)];have hli:lies (br kinds (.str z)) (.str z) x=true:=by unfold lies;rw[if_pos h]
   obtain ⟨d2,m2,hp6,he6⟩:=gr hk hvw hx hxw hp5 he5 hli;rw[if_pos hli,if_pos h,h] at e5;rw[if_pos h] at he6;rw[h] at hul' huw';have nel:et≠l1:=af hE h1;refine aw U5.1 rfl (bb U5.2.1 (by rw[aa1];omega) (aw (by rw[ag nel];exact s5 _ _ hE) (bg (by rw[aaa,aep hq];rfl)) (fin (endAt ws q') _ _ _ _ _ rfl (s5.upd h1 _) (U5.put1 n10 n21 n31 q' x) e5 hul' huw' ⟨d2,m2,hp6,he6⟩)))
  ·obtain ⟨na,nv⟩:=letO h;rw[if_neg (by rw[hno];decide)];refine ⟨hvw.sc _,?_⟩;rw[if_neg (show ¬v=V.str (Str.ofString "any") from na)];refine ⟨hvw.sc _,?_⟩;rw[if_neg (show ¬v=V.str (Str.ofString "var") from nv)];refine ⟨hvw.sc2 hxw,?_⟩;by_cases c:v=x
   ·have hli:lies (br kinds v) v x=true:=by unfold lies;rw[h,if_neg b3,if_neg b5,if_neg b6];exact decide_eq_true c
    obtain ⟨d2,m2,hp6,he6⟩:=gr hk hvw hx hxw hp5 he5 hli;rw[if_pos hli,h,if_neg b3,u.put0] at e5;rw[h,if_neg b3] at he6;rw[h,u.put0] at hul' huw';rw[if_pos c];exact fin (q'+1) _ _ _ _ _ (by omega) s5 U5 e5 hul' huw' ⟨d2,m2,hp6,he6⟩
   ·have hli:¬lies (br kinds v) v x=true:=by unfold lies;rw[h,if_neg b3,if_neg b5,if_neg b6];exact λe=>c (of_decide_eq_true e)
    rw[if_neg hli] at e5;have z:=q H5 s5;rw[←e5] at z;rw[if_neg c];exact z
 ·intro σ H5 hh;refine ob4 ((eP1 _ _ _).mp hh) λq' u v6 v7 hh=>?_;have s5:=hh.2.1;have U5:=hh.2.2.1;have e5:=hh.2.2.2.1;have hul:=hh.2.2.2.2.1;have huw:=hh.2.2.2.2.2.1;have hdm:=hh.2.2.2.2.2.2;obtain rfl:=hh.1;clear hh;obtain ⟨d,m,hp5,he5⟩:=hdm;rw[ac1] at e5;have z:=q H5 s5;rw[←e5] at z;push_cast [and_true];refine aw U5.1 rfl ⟨_,.inl ⟨SqL.of U5.2.1,λt1 ht1=>?_⟩⟩;have U6:=U5.same (aa ht1 (.tup (u.hs.map plV)));refine aw U6.1 rfl ⟨_,.inl ⟨SqL.of U6.2.2.1,λt2 ht2=>?_⟩⟩;have U7:=U6.same (aa ht2 (.tup u.ns));refine aw U7.1 rfl ⟨_,.inl ⟨SqL.of U7.2.2.2,λt3 ht3=>⟨by show (3:Nat)≤sizeLine;decide,λt ht=>?_⟩⟩⟩;exact z t _ ((aa ht1 _).trans ((aa ht2 _).trans ((aa ht3 _).trans (aa ht _)))) ⟨t1,t2,t3,ae,aa ht _ _ _ (aa ht3 _ _ _ (aa ht2 _ _ _ ae)),aa ht _ _ _ (aa ht3 _ _ _ ae),aa ht _ _ _ ae⟩ ⟨⟨huw.1,by omega⟩,⟨huw.2,by omega⟩,by omega⟩
noncomputable abbrev Nf:Stmt:=top 34
theorem Kf:av ["deck","names","most","words","due","cell","more","room","far"] ["deck","names","most"] (ak Nf):=⟨rfl,rfl,rfl,by decide+kernel,rfl,by decide+kernel,by decide+kernel⟩
theorem Px (G:Gs w K mg κ) (h_law_next:Has P w K mg base k "_law_next" ["deck"] jw) (D:Def K mg "_law_term" Nf ["deck","names","most"]):Has P w K mg base (k+1) "_law_term" ["deck","names","most"] Ab:=by
 refine D.has Kf (λvs H Q E h=>?_) (λf cdv A outer s H vs Q E hr h=>?_)
 ·obtain ⟨_,_,_,_,_,_,_,rfl,_,_,_,_,_,_⟩:=h;rfl
 have nd:=Kf.nd;have hu:=b8 hr;have hu0:=aah hu;obtain ⟨d,nl,b,ns,zs,m,n,rfl,hD,hN,h1,h2,hn,q⟩:=h;have m_len:=G.m_len;have m_tuple:=G.m_tuple;refine ⟨_,(A4 (A6 3 nd (AD (A3 0))) (A4 (A6 4 nd (A2 0)) (A4 (C3 (AA (BB 0) (A0 4) (A2 0) (A9 0)) (A4 (A6 5 nd (AG h_law_next hr (A1 (A0 0) (A3 0)))) (A4 (A6 6 nd (A5 (AT 0) (A0 5) (A2 0))) (A4 (A6 7 nd (A5 (B0 0) (A5 (B0 0) (A0 2) (AR (AX 0) m_len d4 (A1 (A0 3) (A3 0)))) (A0 4))) (A7 (AB (B8 (BF (AA (@pf _) (A5 (AE 0) (A0 5) (A2 0)) (A2 0) (A9 0)) (BI (AA (BB 0) (A0 7) (A2 0) (A9 0))))) (A4 (AO (AQ PySem.F.plainAttrs_list PySem.F.slot_list_append PySem.F.type_list_append (AU 0) (A0 3) (A1 (A8 (AW 0) (AD (BD (AI (AI (AI (BE 0)))))) (A5 (AE 0) (A0 5) (A2 0))) (A3 0)))) (A7 (A6 4 nd (A5 (AN 0) (A0 4) (A2 0))))) (A7 (AB (B8 (BF (AA (AM 0) (A5 (AE 0) (A0 5) (A2 0)) (A2 0) (A9 0)) (BI (AA (BB 0) (A0 7) (A2 0) (A9 0))))) (A7 (AO (AQ PySem.F.plainAttrs_list PySem.F.slot_list_append PySem.F.type_list_append (AU 0) (A0 3) (A1 (AJ 0) (A3 0))))) (A4 (A6 4 nd (A5 (B0 0) (A0 4) (A2 0))) (A4 (A6 8 nd (A8 (AW 0) (AD (A1 (A2 0) (A1 (A2 0) (A1 (A2 0) (A1 (A5 (@jh _) (A2 0) (A2 0)) (A1 (A5 (@jh _) (A2 0) (A2 0)) (A1 (A5 (@jh _) (A2 0) (A2 0)) (A3 0)))))))) (A5 (AE 0) (A5 (AT 0) (A0 6) (A2 0)) (A2 0)))) (A4 (A6 8 nd (A8 (AW 0) (AD (A1 (A5 (B0 0) (A5 (AE 0) (A5 (AT 0) (A0 6) (A2 0)) (A5 (@jh _) (A2 0) (A2 0))) (A2 0)) (A1 (A0 8) (A1 (A5 (B0 0) (A2 0) (A0 8)) (A3 0))))) (A5 (AE 0) (A5 (AT 0) (A0 6) (A2 0)) (A2 0)))) (A7 (AO (AQ PySem.F.plainAttrs_list PySem.F.slot_list_append PySem.F.type_list_append (AU 0) (A0 3) (A1 (A8 (AW 0) (AD (A1 (A8 (AW 0) (A0 1) (A2 0)) (A1 (A8 (AW 0) (A0 1) (A2 0)) (A1 (A8 (AW 0) (A0 1) (A2 0)) (A1 (A2 0) (A1 (A2 0) (A1 (C9 (@sq _) (A2 0)) (A1 (A2 0) (A1 (A0 8) (A1 (A0 8) (A3 0))))))))))) (A5 (AE 0) (A0 6) (A2 0))) (A3 0)))))))))))))))) (A7 (AC (AZ (BA 0) m_tuple dh (A1 (A0 3) (A3 0)))))))),?_⟩;rw[show start ["deck","names","most","words","due","cell","more","room","far"] [.ref d,.ref nl,.int (m:Int)]=[some (.ref d),some (.ref nl),some (.int (m:Int)),none,none,none,none,none,none] from rfl];clear hu hu0 nd hr;push_cast [and_true];have sz:=sizeLine_eq;refine ⟨aa7 _,λp hp=>?_⟩;have npd:p≠d:=(af hD.1 hp).symm;obtain ⟨P1,eP1⟩:∃P1:L2.St→Hp→Prop,∀σ H',P1 σ H'↔∃(ws:List V) (due:Nat) (v1 v2 v3 v4:Option V),σ=[some (.ref d),some (.ref nl),some (.int (m:Int)),some (.ref p),some (.int (due:Int)),v1,v2,v3,v4]∧ao d H H'∧H' d=some (.lst [.ref b,.int ((n+ws.length:Nat):Int)])∧H' p=some (.lst ws)∧(∀v∈ws,twW v)∧pend 1 (ws.map arV)=some due∧ws.length+due≤m:=⟨_,λ_ _=>abi⟩;refine j9 P1 (λσ H'=>m - ng H' p) ?_ ?_ ?_
 ·exact (eP1 _ _).mpr ⟨[],1,none,none,none,none,rfl,(ao.refl d H).upd hp _,aa hp _ _ _ hD.1,ae,(λ_ h=>nomatch h),rfl,by show 0+1≤m;omega⟩
 ·intro σ H' hh;refine ob6 ((eP1 _ _).mp hh) λws due v1 v2 v3 v4 hh=>?_;have hS:=hh.2.1;have hD':=hh.2.2.1;have hp':=hh.2.2.2.1;have hw:=hh.2.2.2.2.1;have hpd:=hh.2.2.2.2.2.1;have hr:=hh.2.2.2.2.2.2;obtain rfl:=hh.1;clear hh;push_cast [and_true];have hDk:fq H' d b ns (n+ws.length):=hD.next hS hD'
  refine bz (λhdue=>lu hDk (by omega) λc H1 s1 d1=>?_) λhdue=>?_
  ·push_cast [om,CPow];have hp1':H1 p=some (.lst ws):=s1 p _ npd hp';have hN1:=hN.lj hD (hS.trans s1);have at':∀i:Nat,i < 60→atI (zs.map V.str) (i:Int)=some (.str (zs.getD i "")):=λi hi=>bg (by rw[aaa,aae,aa0 (by rw[hN.2.1];exact hi)];rfl);have ok':∀i:Nat,i < 60→nmOk (zs.getD i ""):=λi hi=>by
    rw[aae,aa0 (by rw[hN.2.1];exact hi)];exact hN.2.2.2 _ (ab7 _)
   have app:∀(v:V) (H2:Hp) (dd:Int),twW v→dd=(due:Int) - 1+(arV v:Int)→ws.length+due+arV v≤m→ah H1 H2→
     ∀w1 w2 w3 w4,mq (.ref p) [v] H2 λ_ H3=>P1 [some (.ref d),some (.ref nl),some (.int (m:Int)),some (.ref p),some (.int dd),w1,w2,w3,w4] H3∧m - ng H3 p < m - ng H' p:=by
    intro v H2 dd hv hdd hroom s2 w1 w2 w3 w4;have hp2:=s2 _ _ hp1';refine ⟨p,ws,v,rfl,rfl,hp2,by omega,(eP1 _ _).mpr ⟨ws++[v],due - 1+arV v,w1,w2,w3,w4,by rw[show dd=((due - 1+arV v:Nat):Int) by omega],(hS.trans (s1.trans (ao.of s2))).upd hp _,?_,ae,λx hx=>?_,?_,?_⟩,?_⟩
    ·rw[ag npd.symm,aa2];exact s2 _ _ d1
    ·rcases List.mem_append.mp hx with h | h
     ·exact hw x h
     ·rw[List.mem_singleton.mp h];exact hv
    ·rw[aa6];exact wu _ _ _ _ hpd (by omega)
    ·rw[aa2,aac];omega
    ·rw[i7 ae,i7 hp',aa2,aac];omega
   refine ⟨ws,.inl (SqL.of hp1'),bz (λc3=>bz (λr1=>⟨ax hp1',by show (3:Nat)≤sizeLine;decide,λp2 hp2=>?_⟩) λr1=>⟨rfl,bz (λe4=>by omega) λe4=>?_⟩) λc3=>⟨rfl,bz (λe4=>bz (λr0=>⟨ax hp1',?_⟩) λr0=>?_) λe4=>?_⟩⟩
   ·obtain ⟨y,hy,hym⟩:=c7 [V.str (Str.ofString "add"),V.str (Str.ofString "sub"),V.str (Str.ofString "mul")] (c % 7) (aas _ (by decide)) (by show c % 7 < 3;omega);obtain ⟨z,rfl,a2⟩:∃z,y=V.str z∧arS z=2:=by
     simp only[aal,aa8,or_false] at hym;rcases hym with rfl | rfl | rfl
     ·exact ⟨_,rfl,by decide+kernel⟩
     ·exact ⟨_,rfl,by decide+kernel⟩
     ·exact ⟨_,rfl,by decide+kernel⟩
    have a2':arV (.str z)=2:=a2;exact aw ae hy (app (.str z) _ ((due:Int)+1) (twW_op (by omega)) (by rw[a2'];omega) (by rw[a2'];omega) (aa hp2 _) _ _ _ _)
   ·refine ⟨by decide,by decide,by decide,by show (6:Nat)≤sizeLine;decide,λp1 hp1=>?_⟩;obtain ⟨f1,hf1,hm1⟩:=c7 [V.int 3,V.int 7,V.int 41,V.int (10 ^ ab0 3),V.int (10 ^ ab0 9),V.int (10 ^ ab0 29)] (c / 7 / 27 % 6) (aas _ (by decide)) (by show c / 7 / 27 % 6 < 6;omega);obtain ⟨i1,rfl⟩:∃i,f1=V.int i:=by
     simp only[aal,aa8,or_false] at hm1;rcases hm1 with rfl | rfl | rfl | rfl | rfl | rfl <;> exact ⟨_,rfl⟩
    refine aw ae hf1 ⟨by decide,by decide+kernel,by show (3:Nat)≤sizeLine;decide,λp2 hp2=>?_⟩;obtain ⟨f2,hf2,hm2⟩:=c7 [V.int (c / 7 / 9 % 10 ^ ab0 20 - 7),V.int i1,V.int (0 - i1)] (c / 7 / 9 % 3) (aas _ (by decide)) (by show c / 7 / 9 % 3 < 3;omega);obtain ⟨i2,rfl⟩:∃i,f2=V.int i:=by
     simp only[aal,aa8,or_false] at hm2;rcases hm2 with rfl | rfl | rfl <;> exact ⟨_,rfl⟩
    have s2:=(aa hp1 (.lst [V.int 3,V.int 7,V.int 41,V.int (10 ^ ab0 3),V.int (10 ^ ab0 9),V.int (10 ^ ab0 29)])).trans (aa hp2 (.lst [V.int (c / 7 / 9 % 10 ^ ab0 20 - 7),V.int i1,V.int (0 - i1)]));refine aw ae hf2 ⟨ax (s2 _ _ hp1'),aw (s2 _ _ hN1.1) (at' 0 (by decide)) (aw (s2 _ _ hN1.1) (at' 50 (by decide)) (aw (s2 _ _ hN1.1) (at' 51 (by decide)) ⟨by show (9:Nat)≤sizeLine;decide,λp3 hp3=>?_⟩))⟩;obtain ⟨f3,hf3,hm3⟩:=c7 [V.str (zs.getD 0 ""),V.str (zs.getD 50 ""),V.str (zs.getD 51 ""),V.int 0,V.int 2,V.int (-1),V.int 5,V.int i2,V.int i2] (c / 7 % 9) (aas _ (by decide)) (by show c / 7 % 9 < 9;omega);obtain ⟨t3,a3⟩:twW f3∧arV f3=0:=by
     simp only[aal,aa8,or_false] at hm3;rcases hm3 with rfl | rfl | rfl | rfl | rfl | rfl | rfl | rfl | rfl
     ·exact ⟨twW_name (ok' 0 (by decide)),(ok' 0 (by decide)).1⟩
     ·exact ⟨twW_name (ok' 50 (by decide)),(ok' 50 (by decide)).1⟩
     ·exact ⟨twW_name (ok' 51 (by decide)),(ok' 51 (by decide)).1⟩
     all_goals exact ⟨twW_int _,rfl⟩
    exact aw ae hf3 (app f3 _ ((due:Int) - 1) t3 (by rw[a3];omega) (by rw[a3];omega) (s2.trans (aa hp3 _)) _ _ _ _)
   ·have an:arV (.str (Str.ofString "neg"))=1:=zj;exact app (.str (Str.ofString "neg")) H1 (due:Int) (twW_op (by decide+kernel)) (by rw[an];omega) (by rw[an];omega) (ah.refl _) _ _ _ _
   ·refine ⟨by decide,by decide,by decide,by show (6:Nat)≤sizeLine;decide,λp1 hp1=>?_⟩;obtain ⟨f1,hf1,hm1⟩:=c7 [V.int 3,V.int 7,V.int 41,V.int (10 ^ ab0 3),V.int (10 ^ ab0 9),V.int (10 ^ ab0 29)] (c / 7 / 27 % 6) (aas _ (by decide)) (by show c / 7 / 27 % 6 < 6;omega);obtain ⟨i1,rfl⟩:∃i,f1=V.int i:=by
     simp only[aal,aa8,or_false] at hm1;rcases hm1 with rfl | rfl | rfl | rfl | rfl | rfl <;> exact ⟨_,rfl⟩
    refine aw ae hf1 ⟨by decide,by decide+kernel,by show (3:Nat)≤sizeLine;decide,λp2 hp2=>?_⟩;obtain ⟨f2,hf2,hm2⟩:=c7 [V.int (c / 7 / 9 % 10 ^ ab0 20 - 7),V.int i1,V.int (0 - i1)] (c / 7 / 9 % 3) (aas _ (by decide)) (by show c / 7 / 9 % 3 < 3;omega);obtain ⟨i2,rfl⟩:∃i,f2=V.int i:=by
     simp only[aal,aa8,or_false] at hm2;rcases hm2 with rfl | rfl | rfl <;> exact ⟨_,rfl⟩
    have s2:=(aa hp1 (.lst [V.int 3,V.int 7,V.int 41,V.int (10 ^ ab0 3),V.int (10 ^ ab0 9),V.int (10 ^ ab0 29)])).trans (aa hp2 (.lst [V.int (c / 7 / 9 % 10 ^ ab0 20 - 7),V.int i1,V.int (0 - i1)]));refine aw ae hf2 ⟨ax (s2 _ _ hp1'),aw (s2 _ _ hN1.1) (at' 0 (by decide)) (aw (s2 _ _ hN1.1) (at' 50 (by decide)) (aw (s2 _ _ hN1.1) (at' 51 (by decide)) ⟨by show (9:Nat)≤sizeLine;decide,λp3 hp3=>?_⟩))⟩;obtain ⟨f3,hf3,hm3⟩:=c7 [V.str (zs.getD 0 ""),V.str (zs.getD 50 ""),V.str (zs.getD 51 ""),V.int 0,V.int 2,V.int (-1),V.int 5,V.int i2,V.int i2] (c / 7 % 9) (aas _ (by decide)) (by show c / 7 % 9 < 9;omega);obtain ⟨t3,a3⟩:twW f3∧arV f3=0:=by
     simp only[aal,aa8,or_false] at hm3;rcases hm3 with rfl | rfl | rfl | rfl | rfl | rfl | rfl | rfl | rfl
     ·exact ⟨twW_name (ok' 0 (by decide)),(ok' 0 (by decide)).1⟩
     ·exact ⟨twW_name (ok' 50 (by decide)),(ok' 50 (by decide)).1⟩
     ·exact ⟨twW_name (ok' 51 (by decide)),(ok' 51 (by decide)).1⟩
     all_goals exact ⟨twW_int _,rfl⟩
    exact aw ae hf3 (app f3 _ ((due:Int) - 1) t3 (by rw[a3];omega) (by rw[a3];omega) (s2.trans (aa hp3 _)) _ _ _ _)
   ·refine ⟨by decide,by decide,by decide,by show (6:Nat)≤sizeLine;decide,λp1 hp1=>?_⟩;obtain ⟨f1,hf1,hm1⟩:=c7 [V.int 3,V.int 7,V.int 41,V.int (10 ^ ab0 3),V.int (10 ^ ab0 9),V.int (10 ^ ab0 29)] (c / 7 / 27 % 6) (aas _ (by decide)) (by show c / 7 / 27 % 6 < 6;omega);obtain ⟨i1,rfl⟩:∃i,f1=V.int i:=by
     simp only[aal,aa8,or_false] at hm1;rcases hm1 with rfl | rfl | rfl | rfl | rfl | rfl <;> exact ⟨_,rfl⟩
    refine aw ae hf1 ⟨by decide,by decide+kernel,by show (3:Nat)≤sizeLine;decide,λp2 hp2=>?_⟩;obtain ⟨f2,hf2,hm2⟩:=c7 [V.int (c / 7 / 9 % 10 ^ ab0 20 - 7),V.int i1,V.int (0 - i1)] (c / 7 / 9 % 3) (aas _ (by decide)) (by show c / 7 / 9 % 3 < 3;omega);obtain ⟨i2,rfl⟩:∃i,f2=V.int i:=by
     simp only[aal,aa8,or_false] at hm2;rcases hm2 with rfl | rfl | rfl <;> exact ⟨_,rfl⟩
    have s2:=(aa hp1 (.lst [V.int 3,V.int 7,V.int 41,V.int (10 ^ ab0 3),V.int (10 ^ ab0 9),V.int (10 ^ ab0 29)])).trans (aa hp2 (.lst [V.int (c / 7 / 9 % 10 ^ ab0 20 - 7),V.int i1,V.int (0 - i1)]));refine aw ae hf2 ⟨ax (s2 _ _ hp1'),aw (s2 _ _ hN1.1) (at' 0 (by decide)) (aw (s2 _ _ hN1.1) (at' 50 (by decide)) (aw (s2 _ _ hN1.1) (at' 51 (by decide)) ⟨by show (9:Nat)≤sizeLine;decide,λp3 hp3=>?_⟩))⟩;obtain ⟨f3,hf3,hm3⟩:=c7 [V.str (zs.getD 0 ""),V.str (zs.getD 50 ""),V.str (zs.getD 51 ""),V.int 0,V.int 2,V.int (-1),V.int 5,V.int i2,V.int i2] (c / 7 % 9) (aas _ (by decide)) (by show c / 7 % 9 < 9;omega);obtain ⟨t3,a3⟩:twW f3∧arV f3=0:=by
     simp only[aal,aa8,or_false] at hm3;rcases hm3 with rfl | rfl | rfl | rfl | rfl | rfl | rfl | rfl | rfl
     ·exact ⟨twW_name (ok' 0 (by decide)),(ok' 0 (by decide)).1⟩
     ·exact ⟨twW_name (ok' 50 (by decide)),(ok' 50 (by decide)).1⟩
     ·exact ⟨twW_name (ok' 51 (by decide)),(ok' 51 (by decide)).1⟩
     all_goals exact ⟨twW_int _,rfl⟩
    exact aw ae hf3 (app f3 _ ((due:Int) - 1) t3 (by rw[a3];omega) (by rw[a3];omega) (s2.trans (aa hp3 _)) _ _ _ _)
  ·have d0:due=0:=by omega
   subst d0;refine ⟨ws,.inl ⟨SqL.of hp',λt ht=>?_⟩⟩;have htn:=hS.free hD' ht;exact q t (n+ws.length) _ ws (hS.upd htn _) (by rw[ag (af hD' ht)];exact hD') (by omega) htn ae ⟨hw,hpd,by omega⟩ (by omega)
 ·intro σ H' Q1 Q2 hq h;simp only[Cv,tOp,rI0,i8,tC,jx,ij,tB] at h ⊢;obtain ⟨v,hv,i,j,e1,e2,k,e3,h⟩:=h;exact ⟨v,hv,i,j,e1,e2,k,e3,hq _ _ h⟩
noncomputable abbrev Dp:Stmt:=top 31
theorem G5:av ["deck","kinds","words","due","left","wide","cell","more","far","number"] ["deck","kinds"] (ak Dp):=⟨rfl,rfl,rfl,by decide+kernel,rfl,by decide+kernel,by decide+kernel⟩
theorem L6 (G:Gs w K mg κ) (h_law_next:Has P w K mg base k "_law_next" ["deck"] jw) (D:Def K mg "_law_shape" Dp ["deck","kinds"]):Has P w K mg base (k+1) "_law_shape" ["deck","kinds"] yp:=by
 refine D.has G5 (λvs H Q E h=>?_) (λf cdv A outer s H vs Q E hr h=>?_)
 ·obtain ⟨_,_,_,_,_,_,rfl,_,_,_,_,_,_,_⟩:=h;rfl
 have nd:=G5.nd;have hu:=b8 hr;have hu0:=aah hu;obtain ⟨d,kt,b,ns,kinds,n,rfl,hD,hK,hk,h1,h2,hn,q⟩:=h;have m_int:=G.m_int;have m_len:=G.m_len;have m_tuple:=G.m_tuple;refine ⟨_,(A4 (A6 2 nd (AD (A3 0))) (A4 (A6 3 nd (A2 0)) (A4 (A6 4 nd (AG h_law_next hr (A1 (A0 0) (A3 0)))) (A4 (A6 5 nd (C4 (AM 0) (A5 (AE 0) (A5 (AT 0) (A0 4) (A2 0)) (A2 0)) (A2 0) (A9 0))) (A4 (A6 4 nd (A8 (AW 0) (AD (A1 (A5 (AN 0) (A2 0) (A5 (AE 0) (A0 4) (A2 0))) (A1 (A2 0) (A3 0)))) (AZ (@g8 _) m_int t8 (A1 (A0 5) (A3 0))))) (A4 (C3 (AA (BB 0) (A0 3) (A2 0) (A9 0)) (A4 (A6 6 nd (AG h_law_next hr (A1 (A0 0) (A3 0)))) (A4 (A6 7 nd (A5 (AT 0) (A0 6) (A2 0))) (A7 (AB (B8 (BF (AA (BB 0) (A0 4) (A2 0) (A9 0)) (BI (AA (@pf _) (A5 (AE 0) (A0 6) (A2 0)) (A5 (AN 0) (A2 0) (AZ (@g8 _) m_int t8 (A1 (A0 5) (A3 0)))) (A9 0))))) (A4 (A6 4 nd (A5 (B0 0) (A0 4) (A2 0))) (A4 (AO (AQ PySem.F.plainAttrs_list PySem.F.slot_list_append PySem.F.type_list_append (AU 0) (A0 2) (A1 (A8 (AW 0) (AD (BD (AI (AI (AI (AI (BE 0))))))) (A5 (AE 0) (A0 7) (A2 0))) (A3 0)))) (A7 (A6 3 nd (A5 (AN 0) (A0 3) (AZ (@g8 _) m_int t8 (A1 (C4 (@pf _) (A5 (AE 0) (A0 7) (A2 0)) (A2 0) (A9 0)) (A3 0)))))))) (A7 (AB (B8 (BF (AA (BB 0) (A0 4) (A2 0) (A9 0)) (BI (AA (AM 0) (A5 (AE 0) (A0 6) (A2 0)) (A2 0) (A9 0))))) (A4 (A6 4 nd (A5 (B0 0) (A0 4) (A2 0))) (A4 (A6 3 nd (A5 (B0 0) (A0 3) (A2 0))) (A4 (A6 8 nd (A8 (AW 0) (AD (A1 (A2 0) (A1 (A2 0) (A1 (A2 0) (A1 (A5 (@jh _) (A2 0) (A2 0)) (A1 (A5 (@jh _) (A2 0) (A2 0)) (A1 (A5 (@jh _) (A2 0) (A2 0)) (A3 0)))))))) (A5 (AE 0) (A5 (AT 0) (A0 7) (A2 0)) (A2 0)))) (A4 (A6 9 nd (A8 (AW 0) (AD (A1 (A2 0) (A1 (A2 0) (A1 (C9 (@sq _) (A2 0)) (A1 (A2 0) (A1 (A0 8) (A1 (A5 (B0 0) (A2 0) (A0 8)) (A3 0)))))))) (A5 (AE 0) (A5 (AT 0) (A0 7) (A2 0)) (A2 0)))) (A7 (AO (AQ PySem.F.plainAttrs_list PySem.F.slot_list_append PySem.F.type_list_append (AU 0) (A0 2) (A1 (A8 (AW 0) (AD (A1 (AJ 0) (A1 (AJ 0) (A1 (A0 9) (A3 0))))) (A5 (AE 0) (A0 7) (A2 0))) (A3 0))))))))) (A4 (A6 3 nd (A5 (B0 0) (A0 3) (A2 0))) (A7 (AO (AQ PySem.F.plainAttrs_list PySem.F.slot_list_append PySem.F.type_list_append (AU 0) (A0 2) (A1 (A8 (AF 0) (A0 1) (A5 (AE 0) (A0 7) (AR (AX 0) m_len d4 (A1 (A0 1) (A3 0))))) (A3 0))))))))))))) (A7 (AC (AZ (BA 0) m_tuple dh (A1 (A0 2) (A3 0))))))))))),?_⟩;rw[show start ["deck","kinds","words","due","left","wide","cell","more","far","number"] [.ref d,.ref kt]=[some (.ref d),some (.ref kt),none,none,none,none,none,none,none,none] from rfl];clear hu hu0 nd hr;push_cast [and_true];have sz:=sizeLine_eq;refine ⟨aa7 _,λp hp=>?_⟩;have npd:p≠d:=(af hD.1 hp).symm;refine lu (b:=b) (ns:=ns) (n:=n) ⟨aa hp _ _ _ hD.1,aa hp _ _ _ hD.2⟩ (by omega) λc0 H1 s1 d1=>?_;push_cast [om];refine ⟨rfl,by show (2:Nat)≤sizeLine;decide,λp1 hp1=>?_⟩;have D0:fq (upd H p (.lst [])) d b ns n:=⟨aa hp _ _ _ hD.1,aa hp _ _ _ hD.2⟩;have D1:=D0.next s1 d1
 have S1:ao d H H1:=(ao.of (aa hp _)).trans s1;have hp1':H1 p=some (.lst []):=s1 p _ npd ae;obtain ⟨L0,hL1,hL2,hat⟩:∃L0:Nat,1≤L0∧L0≤5∧atI [V.int (1+c0 % 4),V.int 5] (if c0 / 4 % 8=3 then 1 else 0)=some (.int (L0:Int)):=by
  have a0:0≤c0 % 4:=aas _ (by decide);by_cases e:c0 / 4 % 8=3
  ·rw[if_pos e];exact ⟨5,by decide,by decide,rfl⟩
  ·rw[if_neg e];exact ⟨(1+c0 % 4).toNat,by omega,by omega,(show atI [V.int (1+c0 % 4),V.int 5] 0=some (V.int (1+c0 % 4)) from rfl).trans (by rw[show (((1+c0 % 4).toNat:Nat):Int)=1+c0 % 4 by omega])⟩
 refine aw ae hat ?_;have S2:=S1.upd (S1.free d1 hp1) (.lst [V.int (1+c0 % 4),V.int 5]);have d2:=aa hp1 (.lst [V.int (1+c0 % 4),V.int 5]) _ _ d1;have p2:=aa hp1 (.lst [V.int (1+c0 % 4),V.int 5]) _ _ hp1';generalize upd H1 p1 (.lst [V.int (1+c0 % 4),V.int 5])=H2 at S2 d2 p2 ⊢;obtain ⟨P1,eP1⟩:∃P1:L2.St→Hp→Prop,∀σ H',P1 σ H'↔∃(ws:List V) (due left:Nat) (v6 v7 v8 v9:Option V),σ=[some (.ref d),some (.ref kt),some (.ref p),some (.int (due:Int)),some (.int (left:Int)),some (.bl (decide (c0 / 4 % 8=3))),v6,v7,v8,v9]∧ao d H H'∧H' d=some (.lst [.ref b,.int ((n+1+ws.length:Nat):Int)])∧H' p=some (.lst ws)∧(∀v∈ws,isW v)∧pend 1 (ws.map arV)=some due∧ws.length+due+2*left≤11∧(ws.filter λv=>!inV v (kinds.map V.str)).length+left≤5:=⟨_,λ_ _=>abi⟩;refine j9 P1 (λσ H'=>11 - ng H' p) ?_ ?_ ?_
 ·exact (eP1 _ _).mpr ⟨[],1,L0,none,none,none,none,rfl,S2,d2,p2,(λ_ h=>nomatch h),rfl,by show 0+1+2*L0≤11;omega,by show 0+L0≤5;omega⟩
 ·intro σ H' hh;refine ob7 ((eP1 _ _).mp hh) λws due left v6 v7 v8 v9 hh=>?_;have hS:=hh.2.1;have hD':=hh.2.2.1;have hp':=hh.2.2.2.1;have hw:=hh.2.2.2.2.1;have hpd:=hh.2.2.2.2.2.1;have hr:=hh.2.2.2.2.2.2.1;have hfew:=hh.2.2.2.2.2.2.2;obtain rfl:=hh.1;clear hh;push_cast [and_true];have hDk:fq H' d b ns (n+1+ws.length):=hD.next hS hD'
  refine bz (λhdue=>lu hDk (by omega) λc H3 s3 d3=>?_) λhdue=>?_
  ·push_cast [om,CPow];have p3:H3 p=some (.lst ws):=s3 p _ npd hp';have k3:H3 kt=some (.tup (kinds.map V.str)):=(hS.trans s3) kt _ (gx hK hD.1 (by intro e;cases e)) hK;have app:∀(v:V) (H4:Hp) (dd:Int) (left':Nat),isW v→dd=(due:Int) - 1+(arV v:Int)→ws.length+due+arV v+2*left'≤11→(left'+1=left∨(left'=left∧inV v (kinds.map V.str)=true))→ah H3 H4→
     ∀w6 w7 w8 w9,mq (.ref p) [v] H4 λ_ H5=>P1 [some (.ref d),some (.ref kt),some (.ref p),some (.int dd),some (.int (left':Int)),some (.bl (decide (c0 / 4 % 8=3))),w6,w7,w8,w9] H5∧11 - ng H5 p < 11 - ng H' p:=by
    intro v H4 dd left' hv hdd hroom hlf s4 w6 w7 w8 w9;have p4:=s4 _ _ p3;refine ⟨p,ws,v,rfl,rfl,p4,by omega,(eP1 _ _).mpr ⟨ws++[v],due - 1+arV v,left',w6,w7,w8,w9,by rw[show dd=((due - 1+arV v:Nat):Int) by omega],(hS.trans (s3.trans (ao.of s4))).upd hp _,?_,ae,λx hx=>?_,?_,?_,?_⟩,?_⟩
    ·rw[ag npd.symm,aa2];exact s4 _ _ d3
    ·rcases List.mem_append.mp hx with h | h
     ·exact hw x h
     ·rw[List.mem_singleton.mp h];exact hv
    ·rw[aa6];exact wu _ _ _ _ hpd (by omega)
    ·rw[aa2,aac];omega
    ·rw[abd,aa2];rcases hlf with h | ⟨h,hin⟩
     ·have:([v].filter λv=>!inV v (kinds.map V.str)).length≤1:=ab8 _ _;omega
     ·have:[v].filter (λv=>!inV v (kinds.map V.str))=[]:=by rw[aap,hin];rfl
      rw[this,acf];omega
    ·rw[i7 ae,i7 hp',aa2,aac];omega
   refine bz (λl0=>bz (λa1=>⟨ax p3,by show (4:Nat)≤sizeLine;decide,λp4 hp4=>?_⟩) λa1=>bz (λ_=>⟨rfl,bz (λe3=>?_) λe3=>?_⟩) λnl=>absurd l0 nl) λnl=>bz (λl0=>absurd l0 nl) λ_=>?_
   ·obtain ⟨y,hy,hw2,ha2⟩:∃y,atI [V.str (Str.ofString "add"),V.str (Str.ofString "sub"),V.str (Str.ofString "mul"),V.str (Str.ofString "neg")] (c / 5 % 4)=some y∧isW y∧((due:Int)+if c / 5 % 4 < 3 then 1 else 0)=(due:Int) - 1+(arV y:Int):=by
     rcases (show c / 5 % 4=((0:Nat):Int)∨c / 5 % 4=((1:Nat):Int)∨c / 5 % 4=((2:Nat):Int)∨c / 5 % 4=((3:Nat):Int) by omega) with e | e | e | e
     ·rw[e];exact ⟨_,bg rfl,⟨Sum.inr _,rfl⟩,by rw[show arV (.str (Str.ofString "add"))=2 by decide+kernel,if_pos (by decide)];omega⟩
     ·rw[e];exact ⟨_,bg rfl,⟨Sum.inr _,rfl⟩,by rw[show arV (.str (Str.ofString "sub"))=2 by decide+kernel,if_pos (by decide)];omega⟩
     ·rw[e];exact ⟨_,bg rfl,⟨Sum.inr _,rfl⟩,by rw[show arV (.str (Str.ofString "mul"))=2 by decide+kernel,if_pos (by decide)];omega⟩
     ·rw[e];exact ⟨_,bg rfl,⟨Sum.inr _,rfl⟩,by rw[show arV (.str (Str.ofString "neg"))=1 from zj,if_neg (by decide)];omega⟩
    have ar2:=tj y;obtain ⟨l',rfl⟩:∃l',left=l'+1:=⟨left - 1,by omega⟩;rw[show ((l'+1:Nat):Int) - 1=(l':Int) by omega];exact aw ae hy (app y _ _ l' hw2 ha2 (by omega) (.inl rfl) (aa hp4 _) _ _ _ _)
   ·obtain ⟨l',rfl⟩:∃l',left=l'+1:=⟨left - 1,by omega⟩;rw[show ((l'+1:Nat):Int) - 1=(l':Int) by omega];refine ⟨by decide,by decide,by decide,by show (6:Nat)≤sizeLine;decide,λp4 hp4=>?_⟩;obtain ⟨f1,hf1,hm1⟩:=c7 [V.int 3,V.int 7,V.int 41,V.int (10 ^ ab0 3),V.int (10 ^ ab0 9),V.int (10 ^ ab0 29)] (c / 5 / 18 % 6) (aas _ (by decide)) (by show c / 5 / 18 % 6 < 6;omega);obtain ⟨i1,rfl⟩:∃i,f1=V.int i:=by
     simp only[aal,aa8,or_false] at hm1;rcases hm1 with rfl | rfl | rfl | rfl | rfl | rfl <;> exact ⟨_,rfl⟩
    refine aw ae hf1 ⟨by show (6:Nat)≤sizeLine;decide,λp5 hp5=>?_⟩;obtain ⟨f2,hf2,hm2⟩:=c7 [V.int 0,V.int 2,V.int (-1),V.int 5,V.int i1,V.int (0 - i1)] (c / 5 / 3 % 6) (aas _ (by decide)) (by show c / 5 / 3 % 6 < 6;omega);obtain ⟨i2,rfl⟩:∃i,f2=V.int i:=by
     simp only[aal,aa8,or_false] at hm2;rcases hm2 with rfl | rfl | rfl | rfl | rfl | rfl <;> exact ⟨_,rfl⟩
    have s5:=(aa hp4 (.lst [V.int 3,V.int 7,V.int 41,V.int (10 ^ ab0 3),V.int (10 ^ ab0 9),V.int (10 ^ ab0 29)])).trans (aa hp5 (.lst [V.int 0,V.int 2,V.int (-1),V.int 5,V.int i1,V.int (0 - i1)]));refine aw ae hf2 ⟨ax (s5 _ _ p3),by show (3:Nat)≤sizeLine;decide,λp6 hp6=>?_⟩;obtain ⟨f3,hf3,hm3⟩:=c7 [V.str (Str.ofString "any"),V.str (Str.ofString "var"),V.int i2] (c / 5 % 3) (aas _ (by decide)) (by show c / 5 % 3 < 3;omega);obtain ⟨t3,a3⟩:isW f3∧arV f3=0:=by
     simp only[aal,aa8,or_false] at hm3;rcases hm3 with rfl | rfl | rfl
     ·exact ⟨⟨Sum.inr _,rfl⟩,oj⟩
     ·exact ⟨⟨Sum.inr _,rfl⟩,qb⟩
     ·exact ⟨⟨Sum.inl _,rfl⟩,rfl⟩
    exact aw ae hf3 (app f3 _ ((due:Int) - 1) l' t3 (by rw[a3];omega) (by rw[a3];omega) (.inl rfl) (s5.trans (aa hp6 _)) _ _ _ _)
   ·have hm:=c7 (kinds.map V.str) (c / 5 % (((kinds.map V.str).length:Nat):Int)) (aas _ (by rw[aa1];omega)) (acg _ (by rw[aa1];omega));obtain ⟨y,hy,hym⟩:=hm;obtain ⟨z,hz,rfl⟩:=List.mem_map.mp hym;have a0:arV (.str z)=0:=(hk z hz).1;have kn:inV (.str z) (kinds.map V.str)=true:=nj hym;exact ⟨ax p3,_,.inr (SqT.of k3),by rw[aa1];omega,au k3 hy (app (.str z) H3 ((due:Int) - 1) left ⟨Sum.inr z,rfl⟩ (by rw[a0];omega) (by rw[a0];omega) (.inr ⟨rfl,kn⟩) (ah.refl _) _ _ _ _)⟩
   ·have hm:=c7 (kinds.map V.str) (c / 5 % (((kinds.map V.str).length:Nat):Int)) (aas _ (by rw[aa1];omega)) (acg _ (by rw[aa1];omega));obtain ⟨y,hy,hym⟩:=hm;obtain ⟨z,hz,rfl⟩:=List.mem_map.mp hym;have a0:arV (.str z)=0:=(hk z hz).1;have kn:inV (.str z) (kinds.map V.str)=true:=nj hym;exact ⟨ax p3,_,.inr (SqT.of k3),by rw[aa1];omega,au k3 hy (app (.str z) H3 ((due:Int) - 1) left ⟨Sum.inr z,rfl⟩ (by rw[a0];omega) (by rw[a0];omega) (.inr ⟨rfl,kn⟩) (ah.refl _) _ _ _ _)⟩
  ·have d0:due=0:=by omega
   subst d0;refine ⟨ws,.inl ⟨SqL.of hp',λt ht=>?_⟩⟩;have htn:=hS.free hD' ht;exact q t (n+1+ws.length) _ ws (hS.upd htn _) (by rw[ag (af hD' ht)];exact hD') (by omega) htn ae ⟨hw,hpd,by omega,by omega⟩
 ·intro σ H' Q1 Q2 hq h;simp only[Cv,tOp,rI0,i8,tC,jx,ij,tB] at h ⊢;obtain ⟨v,hv,i,j,e1,e2,k,e3,h⟩:=h;exact ⟨v,hv,i,j,e1,e2,k,e3,hq _ _ h⟩
noncomputable abbrev Fb:Stmt:=top 32
theorem Fs:av ["kinds","shape","stack","deeds","free","back","at","word","count","read","turn","box"] ["kinds","shape"] (ak Fb):=⟨rfl,rfl,rfl,by decide+kernel,rfl,by decide+kernel,by decide+kernel⟩
theorem Jr (G:Gs w K mg κ) (D:Def K mg "_law_deeds" Fb ["kinds","shape"]):Has P w K mg base (k+1) "_law_deeds" ["kinds","shape"] (zo K):=by
 refine D.has Fs (λvs H Q E h=>?_) (λf cdv A outer s H vs Q E hr h=>?_)
 ·obtain ⟨_,_,_,_,rfl,_,_,_,_,_⟩:=h;rfl
 have nd:=Fs.nd;have hu:=b8 hr;have hu0:=aah hu;obtain ⟨kt,st,kinds,sh,rfl,hK,hS,hk,ok,q⟩:=h;have m_int:=G.m_int;have m_isinstance:=G.m_isinstance;have m_len:=G.m_len;have m_range:=G.m_range;have m_str:=G.m_str;have m_tuple:=G.m_tuple;refine ⟨_,(A4 (A6 2 nd (AD (A3 0))) (A4 (A6 3 nd (AD (A3 0))) (A4 (A6 4 nd (AD (BD (AI (AI (AI (BE 0))))))) (A4 (AY (BU m_range (A1 (AR (AX 0) m_len d4 (A1 (A0 1) (A3 0))) (A3 0))) (AL 5 nd (by first | exact ab1 rfl | exact ab2 rfl)) (A4 (A6 6 nd (A5 (B0 0) (A5 (B0 0) (AR (AX 0) m_len d4 (A1 (A0 1) (A3 0))) (A2 0)) (A0 5))) (A4 (CF 7 nd (A8 (AF 0) (A0 1) (A0 6))) (A4 (A6 8 nd (AZ (@Ag _) m_str Gz (A1 (AR (AX 0) m_len d4 (A1 (BS (BO ["one"] ["word","kinds"] [7,0] (aat rfl (aat rfl trivial)) (aat (aat rfl (aat rfl rfl)) (aat (aat rfl (aat rfl rfl)) trivial))) (BJ (BV (@yv _) (A0 1) (@jd _) (BW (A5 (AN 0) (A0 6) (A2 0))))) (λ_ _ _=>(B7 0 (show abf (["one","word","kinds"]:List Str) by decide+kernel))) (λ_ _ _=>(@pif1 _ _ _ (B8 (C8 (AA (AM 0) (A0 0) (AV 1) (A9 0)) (@ym _ _ _ _ (B8 (BF (BG (@mi _ K rfl) (AV 1) (AV 2)) (BI (BG (@mi _ K rfl) (A0 0) (AV 2)))))))))) (λ_ _ _=>(A0 0))) (A3 0))) (A3 0)))) (A4 (AB (BG (BL 0) (AV 7) (AV 0)) (A4 (AO (AQ PySem.F.plainAttrs_list PySem.F.slot_list_append PySem.F.type_list_append (AU 0) (A0 2) (A1 (A5 (BQ 0) (AJ 0) (A0 8)) (A3 0)))) (A7 (@Ca _ _))) (AK 0)) (A4 (A6 9 nd (AD (A3 0))) (A4 (AY (BU m_range (A1 (A5 (AN 0) (AZ (@g8 _) m_int t8 (A1 (@y4 _ _ _ _ _ _ _ _ (BL 0) (AV 7) (AD (BD (AI (AI (AI (AI (BE 0))))))) (by with_unfolding_all rfl)) (A3 0))) (AZ (@g8 _) m_int t8 (A1 (@y4 _ _ _ _ _ _ _ _ (BL 0) (AV 7) (AD (BD (AI (AI (AI (BE 0)))))) (by with_unfolding_all rfl)) (A3 0)))) (A3 0))) (AL 10 nd (by first | exact ab1 rfl | exact ab2 rfl)) (A7 (AO (AQ PySem.F.plainAttrs_list PySem.F.slot_list_append PySem.F.type_list_append (AU 0) (A0 9) (A1 (BY PySem.F.plainAttrs_list PySem.F.slot_list_pop PySem.F.type_list_pop (@oo _) (A0 2)) (A3 0)))))) (A4 (AO (AQ PySem.F.plainAttrs_list PySem.F.slot_list_extend PySem.F.type_list_extend (@k8 _) (A0 4) (A1 (BS (BO ["box"] [] [] trivial trivial) (BH (A0 9)) (λ_ _ _=>(B7 0 (show abf (["box"]:List Str) by decide+kernel))) (λ_ _ _=>(@pif1 _ _ _ (AA (AM 0) (A8 (@jz _) (A0 0) (A2 0)) (AJ 0) (A9 0)))) (λ_ _ _=>(A0 0))) (A3 0)))) (A4 (A6 11 nd (AJ 0)) (BC (AB (AA (BB 0) (A0 6) (A2 0) (A9 0)) (A7 (A6 11 nd (BY PySem.F.plainAttrs_list PySem.F.slot_list_pop PySem.F.type_list_pop (@oo _) (A0 4)))) (AK 0)) (BC (AB (AA (AM 0) (AV 7) (AJ 0) (A9 0)) (A7 (AO (AQ PySem.F.plainAttrs_list PySem.F.slot_list_append PySem.F.type_list_append (AU 0) (A0 3) (A1 (AH (A1 (AJ 0) (A1 (A0 11) (A1 (A5 (BQ 0) (AJ 0) (A0 8)) (A3 0))))) (A3 0))))) (A7 (AB (AA (AM 0) (AV 7) (AJ 0) (A9 0)) (A7 (AO (AQ PySem.F.plainAttrs_list PySem.F.slot_list_append PySem.F.type_list_append (AU 0) (A0 3) (A1 (AH (A1 (AJ 0) (A1 (A0 11) (A1 (A5 (BQ 0) (AJ 0) (A0 8)) (A3 0))))) (A3 0))))) (A7 (AB (C0 (AR (@gg _) m_isinstance fj (A1 (AV 7) (A1 (BZ m_int t8) (A3 0))))) (A7 (AO (AQ PySem.F.plainAttrs_list PySem.F.slot_list_append PySem.F.type_list_append (AU 0) (A0 3) (A1 (AH (A1 (AJ 0) (A1 (A0 11) (A1 (AV 7) (A3 0))))) (A3 0))))) (A7 (AO (AQ PySem.F.plainAttrs_list PySem.F.slot_list_append PySem.F.type_list_append (AU 0) (A0 3) (A1 (A5 (@Gx _) (AH (A1 (AV 7) (A1 (A0 11) (A3 0)))) (AZ (BA 0) m_tuple dh (A1 (A0 9) (A3 0)))) (A3 0)))))))))) (A7 (AO (AQ PySem.F.plainAttrs_list PySem.F.slot_list_append PySem.F.type_list_append (AU 0) (A0 2) (A1 (A0 11) (A3 0)))))))))))))))) (A4 (AB (AA (AM 0) (AR (AX 0) m_len d4 (A1 (A0 3) (A3 0))) (A2 0) (A9 0)) (A7 (AC (AH (A1 (AH (BD (AI (AI (BT (BE 0)))))) (A1 (AH (BD (AI (AI (AI (AI (BE 0))))))) (A3 0)))))) (AK 0)) (A7 (AC (AZ (BA 0) m_tuple dh (A1 (A0 3) (A3 0)))))))))),?_⟩;rw[show start ["kinds","shape","stack","deeds","free","back","at","word","count","read","turn","box"] [.ref kt,.ref st]=[some (.ref kt),some (.ref st),none,none,none,none,none,none,none,none,none,none] from rfl];clear hu hu0 nd hr;push_cast [and_true];have sz:=sizeLine_eq;have hlen:=ok.len;refine ⟨aa7 _,λsp h1=>⟨aa7 _,λdp h2=>⟨by show (3:Nat)≤sizeLine;decide,λfp h3=>?_⟩⟩⟩;have nsd:sp≠dp:=af ae h2;have nsf:sp≠fp:=af (aa h2 _ _ _ ae) h3;have ndf:dp≠fp:=af ae h3;have S1:=aa h1 (.lst []);have fd:=S1.free h2;have S2:=S1.trans (aa h2 (.lst []));have ff:=S2.free h3;have S3:=S2.trans (aa h3 (.lst [V.str (Str.ofString "t3"),V.str (Str.ofString "t2"),V.str (Str.ofString "t1")]));have z3:=aa h3 (.lst [V.str (Str.ofString "t3"),V.str (Str.ofString "t2"),V.str (Str.ofString "t1")]) _ _ (aa h2 (.lst []) _ _ (ae (H:=H) (a:=sp) (o:=.lst [])));have d3:=aa h3 (.lst [V.str (Str.ofString "t3"),V.str (Str.ofString "t2"),V.str (Str.ofString "t1")]) _ _ (ae (H:=upd H sp (.lst [])) (a:=dp) (o:=.lst []));have f3:upd (upd (upd H sp (.lst [])) dp (.lst [])) fp (.lst [V.str (Str.ofString "t3"),V.str (Str.ofString "t2"),V.str (Str.ofString "t1")]) fp=some (.lst ([Str.ofString "t3",Str.ofString "t2",Str.ofString "t1"].map V.str)):=ae;generalize upd (upd (upd H sp (.lst [])) dp (.lst [])) fp (.lst [V.str (Str.ofString "t3"),V.str (Str.ofString "t2"),V.str (Str.ofString "t1")])=H3 at S3 z3 d3 f3 ⊢;refine ⟨sh,.inr (SqT.of (S3 _ _ hS)),by omega,by omega,?_⟩;rw[show ((sh.length:Nat):Int).toNat=sh.length by omega];obtain ⟨P1,eP1⟩:∃P1:Nat→L2.St→Hp→Prop,∀j σ H',P1 j σ H'↔∃(zs fs:List Str) (ds:List V) (v5 v6 v7 v8 v9 v10 v11:Option V),σ=[some (.ref kt),some (.ref st),some (.ref sp),some (.ref dp),some (.ref fp),v5,v6,v7,v8,v9,v10,v11]∧ah H H'∧H' sp=some (.lst (zs.map V.str))∧H' dp=some (.lst ds)∧H' fp=some (.lst (fs.map V.str))∧ds.length≤j∧DI kinds sh (sh.length - j) zs fs:=⟨_,λ_ _ _=>abi⟩;refine gc (lo:=0) P1 ((eP1 _ _ _).mpr ⟨[],_,[],none,none,none,none,none,none,none,rfl,S3,z3,d3,f3,aa4 _,DI.start ok⟩) ?_ ?_
 ·intro j σ H5 hj hh;refine ob10 ((eP1 _ _ _).mp hh) λzs fs ds v5 v6 v7 v8 v9 v10 v11 hh=>?_;have s5:=hh.2.1;have z5:=hh.2.2.1;have d5:=hh.2.2.2.1;have f5:=hh.2.2.2.2.1;have hdl:=hh.2.2.2.2.2.1;have di:=hh.2.2.2.2.2.2;obtain rfl:=hh.1;clear hh;obtain ⟨p,hp⟩:∃p,p+j+1=sh.length:=⟨sh.length - 1 - j,by omega⟩;rw[show sh.length - j=p+1 by omega] at di;have ej:(λ_:Unit=>sh.length - (j+1))=λ_=>p:=by funext _;omega
  have hpl:p < sh.length:=by omega
  have hv:sh[p]?=some sh[p]:=aa0 hpl;have hvw:=ok.w _ (ab7 hpl);have hat:atI sh (p:Int)=some sh[p]:=bg hv;generalize sh[p]=v at hv hvw hat;have fl:(kinds.map V.str).all il=true:=List.all_eq_true.mpr λx hx=>by obtain ⟨z,_,rfl⟩:=List.mem_map.mp hx;rfl
  have zll:=Fn _ _ di.pd;rw[aa1,aan] at zll;push_cast [and_true];refine ⟨sh,.inr (SqT.of (s5 _ _ hS)),?_⟩;rw[show ((sh.length:Int) - 1 - (0+(j:Int)))=(p:Int) by omega];refine au (s5 _ _ hS) hat (Qw (s5 _ _ hS) λa H6 s6 h6=>⟨a,rfl,⟨_,SqT.of h6⟩,λD hD=>?_⟩);have e6:(p:Int)+1=((p+1:Nat):Int):=by omega
  rw[e6,mv sh (p+1) (by omega)] at h6;have S6:=s5.trans s6;refine E6 (λi ys=>True) (SqT.of h6) (by rw[aav];omega) hD trivial (λi x ys H1 G' K' hx hP hl2 hS' hG hK'=>?_) λys H7 hP hl2 s7 hD2=>?_
  ·have hxw:=ok.w x (aba (aaf hx));have kk:=SqT.of (K:=K) (hS' _ _ (S6 _ _ hK));push_cast [rIn];exact ⟨hxw.sc2 hvw,bz (λ_=>hK' _ _ (ah.refl _) trivial) λ_=>⟨_,.inr kk,hvw.flat,fl,bz (λ_=>⟨_,.inr kk,hxw.flat,fl,bz (λ_=>hK' _ _ (ah.refl _) trivial) λ_=>hG _ (ah.refl _) trivial⟩) λ_=>hG _ (ah.refl _) trivial⟩⟩
  rw[aav] at hl2;have S7:=S6.trans s7;have z7:=s7 _ _ (s6 _ _ z5);have d7:=s7 _ _ (s6 _ _ d5);have f7:=s7 _ _ (s6 _ _ f5);obtain ⟨tx1,tx2⟩:=E4 (n:=ys.length) (by omega);refine ⟨ys,.inl (SqL.of hD2),tx2,kt,_,rfl,.inr (SqT.of (S7 _ _ hK)),hvw.flat,fl,?_⟩;generalize Gw (V.int (ys.length:Int))=tx at tx1 ⊢;clear hD hD2 hl2 tx2 s7 s6 h6 S6 hP;rw[show ∀x y:Bool,(if false=true then x else y)=y from λ_ _=>rfl];have h1l:(Str.ofString "h").length=1:=by decide+kernel
  cases hin:inV v (kinds.map V.str) with
  | true=>
   refine ifY rfl ?_;refine ⟨ax z7,by omega,(bb (K:=K) z7 (by rw[aa1];omega) ?_).2⟩;push_cast [tCont];exact (eP1 _ _ _).mpr ⟨zs++[Str.ofString "h"++tx],fs,ds,_,_,_,_,_,_,_,rfl,S7.upd h1 _,by rw[ae,aa6];rfl,by rw[ag nsd.symm];exact d7,by rw[ag nsf.symm];exact f7,by omega,by rw[show sh.length - (j+1)=p from congrFun ej ()];exact di.hole hv (Qn hk hvw hin) (isT_h tx) (by rw[Str.length_append,h1l];omega)⟩
  | false=>
   refine ifN aaj ?_;push_cast [and_true];refine ⟨aa7 _,λrp hrp=>⟨by show (4:Nat)≤sizeLine;decide,λp1 hp1=>⟨p1,_,rfl,.inl (SqL.of ae),hvw.flat,rfl,by show (3:Nat)≤sizeLine;decide,λp2 hp2=>⟨p2,_,rfl,.inl (SqL.of ae),hvw.flat,rfl,?_⟩⟩⟩⟩;dsimp only;rw[show ∀x y:Bool,(if false=true then x else y)=y from λ_ _=>rfl,show ∀x y:Bool,(if false=true then x else y)=y from λ_ _=>rfl];have oc:=Hy hvw;rw[show ((if inV v [V.str (Str.ofString "add"),V.str (Str.ofString "sub"),V.str (Str.ofString "mul"),V.str (Str.ofString "neg")]=true then (1:Int) else 0)+if inV v [V.str (Str.ofString "add"),V.str (Str.ofString "sub"),V.str (Str.ofString "mul")]=true then 1 else 0)=(arV v:Int) from oc];have ar2:=tj v;refine ⟨by omega,by omega,?_⟩;rw[show ((arV v:Nat):Int).toNat=arV v by omega];have frp:=S7.free hrp;have nrs:rp≠sp:=(af z7 hrp).symm;have nrd:rp≠dp:=(af d7 hrp).symm;have nrf:rp≠fp:=(af f7 hrp).symm;have q8:=(aa hrp (.lst [])).trans ((aa hp1 (.lst [V.str (Str.ofString "add"),V.str (Str.ofString "sub"),V.str (Str.ofString "mul"),V.str (Str.ofString "neg")])).trans (aa hp2 (.lst [V.str (Str.ofString "add"),V.str (Str.ofString "sub"),V.str (Str.ofString "mul")])));have r8:=aa hp2 (.lst [V.str (Str.ofString "add"),V.str (Str.ofString "sub"),V.str (Str.ofString "mul")]) _ _ (aa hp1 (.lst [V.str (Str.ofString "add"),V.str (Str.ofString "sub"),V.str (Str.ofString "mul"),V.str (Str.ofString "neg")]) _ _ (ae (H:=H7) (a:=rp) (o:=.lst [])));have S8:=S7.trans q8;have z8:=q8 _ _ z7;have d8:=q8 _ _ d7;have f8:=q8 _ _ f7;generalize upd (upd (upd H7 rp (.lst [])) p1 (.lst [V.str (Str.ofString "add"),V.str (Str.ofString "sub"),V.str (Str.ofString "mul"),V.str (Str.ofString "neg")])) p2 (.lst [V.str (Str.ofString "add"),V.str (Str.ofString "sub"),V.str (Str.ofString "mul")])=H8 at q8 r8 S8 z8 d8 f8 ⊢;obtain ⟨hale,_,_,_⟩:=di.less hv;obtain ⟨P2,eP2⟩:∃P2:Nat→L2.St→Hp→Prop,∀k σ H',P2 k σ H'↔∃v10:Option V,σ=[some (.ref kt),some (.ref st),some (.ref sp),some (.ref dp),some (.ref fp),some (.int (0+(j:Int))),some (.int (p:Int)),some v,some (.str tx),some (.ref rp),v10,v11]∧ah H H'∧H' sp=some (.lst ((zs.take (zs.length - k)).map V.str))∧H' rp=some (.lst ((zs.drop (zs.length - k)).reverse.map V.str))∧H' dp=some (.lst ds)∧H' fp=some (.lst (fs.map V.str)):=⟨_,λ_ _ _=>abi⟩;refine gc (lo:=0) P2 ?_ ?_ ?_
   ·refine (eP2 _ _ _).mpr ⟨v10,rfl,S8,?_,?_,d8,f8⟩
    ·rw[ace,abj];exact z8
    ·rw[ace,ac1];exact r8
   ·intro k σ H9 hk9 hh;obtain ⟨w10,hh⟩:=(eP2 _ _ _).mp hh;have s9:=hh.2.1;have z9:=hh.2.2.1;have r9:=hh.2.2.2.1;have d9:=hh.2.2.2.2.1;have f9:=hh.2.2.2.2.2;obtain rfl:=hh.1;clear hh;push_cast [and_true];obtain ⟨m,hm⟩:∃m,m+1=zs.length - k:=⟨zs.length - k - 1,by omega⟩;rw[←hm] at z9 r9;have ek:(λ_:Unit=>zs.length - (k+1))=λ_=>m:=by funext _;omega
    have hml:m < zs.length:=by omega
    have et:zs.take (m+1)=zs.take m++[zs[m]]:=by rw[ab4,aa0 hml];rfl
    have ed9:zs.drop m=zs[m]::zs.drop (m+1):=aax hml;rw[et,aa6] at z9;refine ⟨ax r9,qf z9 (bb (K:=K) (by rw[ag nrs];exact r9) (by rw[aa1,aaz,aan];omega) ((eP2 _ _ _).mpr ⟨_,rfl,(s9.upd h1 _).upd frp _,by rw[show zs.length - (k+1)=m from congrFun ek (),ag nrs.symm,ae],?_,by rw[ag nrd.symm,ag nsd.symm];exact d9,by rw[ag nrf.symm,ag nsf.symm];exact f9⟩)).2⟩;rw[show zs.length - (k+1)=m from congrFun ek (),ae,ed9,ach,aa6];rfl
   ·intro σ H9 hh;obtain ⟨w10,hh⟩:=(eP2 _ _ _).mp hh;have s9:=hh.2.1;have z9:=hh.2.2.1;have r9:=hh.2.2.2.1;have d9:=hh.2.2.2.2.1;have f9:=hh.2.2.2.2.2;obtain rfl:=hh.1;clear hh;obtain ⟨rd,hrd⟩:∃rd,rd=zs.drop (zs.length - arV v):=⟨_,rfl⟩;obtain ⟨zs0,hz0⟩:∃zs0,zs0=zs.take (zs.length - arV v):=⟨_,rfl⟩;rw[←hrd] at r9;rw[←hz0] at z9;have ezs:zs=zs0++rd:=by rw[hrd,hz0,ac5]
    have rdl:rd.length=arV v:=by rw[hrd,aan];omega
    obtain ⟨dp1,dp2,dp3⟩:=di.put hk ok hv hin ezs rdl;push_cast [and_true];refine ⟨ax f9,⟨_,SqL.of r9⟩,λD hD=>?_⟩;refine Oj (λi ys=>ys=((rd.reverse.take i).filter isT).map V.str) (SqL.of r9) (by rw[aa1,aaz];omega) hD rfl (λi x ys H1 G' K' hx hP hl2 hS' hG hK'=>?_) λys H10 hP hl2 s10 hD2=>?_
    ·rw[aaa] at hx;obtain ⟨z,hz,rfl⟩:=Option.map_eq_some_iff.mp hx;have hzr:z∈rd:=List.mem_reverse.mp (aaf hz);obtain ⟨zl1,zl2⟩:=di.zl z (by rw[ezs];exact aau _ hzr);obtain ⟨c,hc,hct⟩:=Ks zl1;have tk:rd.reverse.take (i+1)=rd.reverse.take i++[z]:=by rw[ab4,hz];rfl
     push_cast [rIxS];refine ⟨by omega,c,hc,rfl,bz (λe=>hK' _ _ (ah.refl _) ?_) λe=>hG _ (ah.refl _) ?_⟩
     ·have e':isT z=true:=hct.mp (by rw[e]);rw[tk,abd,aa6,hP,aap,e'];rfl
     ·have e':isT z=false:=Bool.eq_false_iff.mpr λe2=>e (V.str.inj (hct.mpr e2));rw[tk,abd,aa6,hP,aap,e'];show _=_++[]
      rw[ab3]
    ·rw[aa1,abj] at hP;obtain ⟨gs,hgs⟩:∃gs,gs=rd.reverse.filter isT:=⟨_,rfl⟩;rw[←hgs] at hP;have gl:gs.length=tc rd:=by rw[hgs];unfold tc;rw[List.filter_reverse,aaz]
     have gt:∀y∈gs,isT y=true∧1≤y.length∧y.length≤100:=λy hy=>by
      rw[hgs] at hy;obtain ⟨y1,y2⟩:=List.mem_filter.mp hy;exact ⟨y2,di.zl y (by rw[ezs];exact aau _ (List.mem_reverse.mp y1))⟩
     have tl:tc rd≤rd.length:=ab8 _ _;have fl3:fs.length≤3:=by have:=di.three;omega
     subst hP;refine ⟨fp,D,fs.map V.str,gs.map V.str,rfl,rfl,s10 _ _ f9,hD2,by rw[aa1,aa1];omega,?_⟩;have S11:=(s9.trans s10).upd ff (.lst (fs.map V.str++gs.map V.str));have z11:upd H10 fp (.lst (fs.map V.str++gs.map V.str)) sp=some (.lst (zs0.map V.str)):=by rw[ag nsf];exact s10 _ _ z9
     have r11:upd H10 fp (.lst (fs.map V.str++gs.map V.str)) rp=some (.lst (rd.reverse.map V.str)):=by rw[ag nrf];exact s10 _ _ r9
     have d11:upd H10 fp (.lst (fs.map V.str++gs.map V.str)) dp=some (.lst ds):=by rw[ag ndf];exact s10 _ _ d9
     have f11:upd H10 fp (.lst (fs.map V.str++gs.map V.str)) fp=some (.lst ((fs++gs).map V.str)):=by rw[ae,aa6]
     generalize upd H10 fp (.lst (fs.map V.str++gs.map V.str))=H11 at S11 z11 r11 d11 f11 ⊢;have ft:∀y∈fs++gs,isT y=true∧1≤y.length∧y.length≤100:=λy hy=>by
      rcases List.mem_append.mp hy with g | g
      ·exact di.fl y g
      ·exact gt y g
     have fgl:(fs++gs).length=fs.length+tc rd:=by rw[aa2,gl]
     generalize fs++gs=fg at f11 ft fgl;refine dy (λσ' H12=>∃(box:Str) (fs2:List Str),σ'=[some (.ref kt),some (.ref st),some (.ref sp),some (.ref dp),some (.ref fp),some (.int (0+(j:Int))),some (.int (p:Int)),some v,some (.str tx),some (.ref rp),w10,some (.str box)]∧ah H H12∧H12 sp=some (.lst (zs0.map V.str))∧H12 rp=some (.lst (rd.reverse.map V.str))∧H12 dp=some (.lst ds)∧H12 fp=some (.lst (fs2.map V.str))∧DI kinds sh p (zs0++[box]) fs2) ?_ ?_
     ·push_cast [and_true];refine bz (λp0=>?_) λp0=>⟨S11,z11,r11,d11,fg,f11,dp2 _ fg fgl Po (by decide+kernel) (by decide+kernel) ft⟩;have ne:fg≠[]:=by
       intro e;rw[e] at fgl;have:=dp3 (by omega);simp at fgl;omega
      have ec:fg.dropLast++[fg.getLast ne]=fg:=adn ne;rw[←ec,aa6] at f11;have hb:=ft _ (List.getLast_mem ne);have el:fg.dropLast.length+1=fg.length:=by rw[adg];have:=List.length_pos_iff.mpr ne;omega
      refine qf f11 ⟨_,rfl,S11.upd ff _,by rw[ag nsf];exact z11,by rw[ag nrf];exact r11,by rw[ag ndf];exact d11,fg.dropLast,ae,?_⟩;exact dp1 _ _ (by omega) hb.1 hb.2.1 hb.2.2 λy hy=>ft y ((List.dropLast_sublist fg).subset hy)
     rintro _ H12 ⟨box,fs2,rfl,s12,z12,r12,d12,f12,di12⟩;have hbl:=di12.zl box (aau _ aa9);refine dy (λσ' H13=>∃ds2:List V,σ'=[some (.ref kt),some (.ref st),some (.ref sp),some (.ref dp),some (.ref fp),some (.int (0+(j:Int))),some (.int (p:Int)),some v,some (.str tx),some (.ref rp),w10,some (.str box)]∧ah H H13∧H13 sp=some (.lst (zs0.map V.str))∧H13 dp=some (.lst ds2)∧H13 fp=some (.lst (fs2.map V.str))∧ds2.length≤j+1) ?_ ?_
     ·push_cast [and_true];have nl1:(Str.ofString "n").length=1:=by decide+kernel
      have vl1:(Str.ofString "v").length=1:=by decide+kernel
      have app:∀(y:V) (H':Hp),ah H12 H'→mq (.ref dp) [y] H' λ_ H1=>ah H H1∧H1 sp=some (.lst (zs0.map V.str))∧∃x:List V,H1 dp=some (.lst x)∧H1 fp=some (.lst (fs2.map V.str))∧x.length≤j+1:=λy H' s'=>
       (bb (K:=K) (s' _ _ d12) (by omega) ⟨(s12.trans s').upd fd _,by rw[ag nsd];exact s' _ _ z12,ds++[y],ae,by rw[ag ndf.symm];exact s' _ _ f12,by rw[aa2,aac];omega⟩).2
      refine ⟨hvw.sc _,bz (λ_=>⟨ax d12,by omega,by show (3:Nat)≤sizeLine;decide,λp3 hp3=>app _ _ (aa hp3 _)⟩) λ_=>⟨hvw.sc _,bz (λ_=>⟨ax d12,by omega,by show (3:Nat)≤sizeLine;decide,λp3 hp3=>app _ _ (aa hp3 _)⟩) λ_=>?_⟩⟩;obtain ⟨k',rfl⟩:=hvw;cases k' with
      | inl i0=>exact ⟨_,.int i0,true,rfl,iteT ⟨ax d12,by show (3:Nat)≤sizeLine;decide,λp3 hp3=>app _ _ (aa hp3 _)⟩⟩
      | inr z0=>exact ⟨_,.str z0,false,rfl,iteF ⟨ax d12,by show (2:Nat)≤sizeLine;decide,λp3 hp3=>⟨_,.inl ⟨SqL.of (aa hp3 _ _ _ r12),λl hl=>Co (aa hl _ _ _ ae) ae (by rw[aa1,aaz];show 2+rd.length≤_;omega) λb H14 s14 h14=>app _ _ ((aa hp3 _).trans ((aa hl _).trans s14))⟩⟩⟩⟩
     ·rintro _ H13 ⟨ds2,rfl,s13,z13,d13,f13,hd13⟩;push_cast [and_true];have z0l:zs0.length≤zs.length:=by rw[hz0,aav];omega
      exact bb z13 (by rw[aa1];omega) ((eP1 _ _ _).mpr ⟨zs0++[box],fs2,ds2,_,_,_,_,_,_,_,rfl,s13.upd h1 _,by rw[ae,aa6];rfl,by rw[ag nsd.symm];exact d13,by rw[ag nsf.symm];exact f13,hd13,by rw[show sh.length - (j+1)=p from congrFun ej ()];exact di12⟩)
 ·intro σ H5 hh;refine ob10 ((eP1 _ _ _).mp hh) λzs fs ds v5 v6 v7 v8 v9 v10 v11 hh=>?_;have s5:=hh.2.1;have z5:=hh.2.2.1;have d5:=hh.2.2.2.1;have f5:=hh.2.2.2.2.1;have hdl:=hh.2.2.2.2.2.1;have di:=hh.2.2.2.2.2.2;obtain rfl:=hh.1;clear hh;push_cast [and_true];refine ⟨ds,.inl (SqL.of d5),rfl,bz (λ_=>⟨by show (3:Nat)≤sizeLine;decide,λp1 hp1=>⟨by show (4:Nat)≤sizeLine;decide,λp2 hp2=>⟨by show (2:Nat)≤sizeLine;decide,λp3 hp3=>?_⟩⟩⟩) λ_=>⟨ds,.inl ⟨SqL.of d5,λl hl=>q l _ _ (s5.trans (aa hl _)) ae⟩⟩⟩;exact q p3 _ _ (((s5.trans (aa hp1 _)).trans (aa hp2 _)).trans (aa hp3 _)) ae
noncomputable abbrev Kj:Stmt:=top 33
theorem Lp:av ["deck","names","cell","many","drawn","kinds","first","shapes","k","one","shape","rules","kind","price","at"] ["deck","names"] (ak Kj):=⟨rfl,rfl,rfl,by decide+kernel,rfl,by decide+kernel,by decide+kernel⟩
theorem Oq (G:Gs w K mg κ) (h_law_deeds:Has P w K mg base k "_law_deeds" ["kinds","shape"] (zo K)) (h_law_next:Has P w K mg base k "_law_next" ["deck"] jw) (h_law_shape:Has P w K mg base k "_law_shape" ["deck","kinds"] yp) (D:Def K mg "_law_book" Kj ["deck","names"]):Has P w K mg base (k+1) "_law_book" ["deck","names"] Fd:=by
 refine D.has Lp (λvs H Q E h=>?_) (λf cdv A outer s H vs Q E hr h=>?_)
 ·obtain ⟨_,_,_,_,_,_,rfl,_,_,_,_⟩:=h;rfl
 have nd:=Lp.nd;have hu:=b8 hr;have hu0:=aah hu;obtain ⟨d,nl,b,ns,zs,n,rfl,hD,hN,hn,q⟩:=h;have m_len:=G.m_len;have m_range:=G.m_range;have m_tuple:=G.m_tuple;refine ⟨_,(A4 (CF 2 nd (AG h_law_next hr (A1 (A0 0) (A3 0)))) (A4 (A6 3 nd (A5 (AN 0) (A2 0) (A5 (AE 0) (AV 2) (A2 0)))) (A4 (A6 4 nd (A5 (AN 0) (A2 0) (A5 (AE 0) (A5 (AT 0) (AV 2) (A2 0)) (A2 0)))) (BC (AB (AA (AM 0) (A5 (AE 0) (A5 (AT 0) (AV 2) (A2 0)) (A2 0)) (A2 0) (A9 0)) (A4 (A6 3 nd (A5 (AN 0) (A2 0) (A5 (AE 0) (A5 (AT 0) (AV 2) (A2 0)) (A2 0)))) (A7 (A6 4 nd (A2 0)))) (AK 0)) (A4 (A6 5 nd (AZ (BA 0) m_tuple dh (A1 (BV (@rq _) (A0 1) (@jd _) (BW (A0 3))) (A3 0)))) (A4 (A6 6 nd (A8 (AF 0) (A0 5) (A2 0))) (BC (CF 7 nd (AD (A1 (AH (A1 (A0 6) (A1 (AH (A1 (AJ 0) (A3 0))) (A3 0)))) (A1 (AH (A1 (A0 6) (A1 (AH (A1 (AJ 0) (A3 0))) (A3 0)))) (A1 (AH (A1 (A0 6) (A1 (AH (A1 (AJ 0) (A1 (A0 6) (A1 (A0 6) (A3 0))))) (A3 0)))) (A1 (AH (A1 (A0 6) (A1 (AH (A1 (AJ 0) (A1 (A0 6) (A3 0)))) (A3 0)))) (A3 0))))))) (A4 (CF 7 nd (BS (BO ["k"] ["cell","shapes"] [2,7] (aat rfl (aat rfl trivial)) (aat (aat rfl (aat rfl rfl)) (aat (aat rfl (aat rfl rfl)) trivial))) (BU m_range (A1 (A2 0) (A3 0))) (λ_ _ _=>(B7 0 (show abf (["k","cell","shapes"]:List Str) by decide+kernel))) (λ_ _ _=>(@pif1 _ _ _ (AA (@Lx _) (A5 (AE 0) (A5 (AT 0) (A5 (AT 0) (AV 1) (A2 0)) (A8 (@uy _ K rfl) (AD (BD (BT (BT (BT (BT (BE 0))))))) (A0 0))) (A2 0)) (A2 0) (A9 0)))) (λ_ _ _=>(A8 (@uy _ K rfl) (AV 2) (A0 0))))) (A4 (AY (BU m_range (A1 (A0 4) (A3 0))) (AL 8 nd (by first | exact ab1 rfl | exact ab2 rfl)) (A4 (A6 9 nd (AG h_law_next hr (A1 (A0 0) (A3 0)))) (A4 (A6 10 nd (AG h_law_shape hr (A1 (A0 0) (A1 (A0 5) (A3 0))))) (BC (AB (AA (AM 0) (A5 (AE 0) (A0 9) (A2 0)) (A2 0) (A9 0)) (A7 (A6 10 nd (AH (A1 (A8 (AF 0) (A0 5) (A5 (AE 0) (A5 (AT 0) (A0 9) (A2 0)) (AR (AX 0) m_len d4 (A1 (A0 5) (A3 0))))) (A3 0))))) (AK 0)) (A7 (AO (AQ PySem.F.plainAttrs_list PySem.F.slot_list_append PySem.F.type_list_append (AU 0) (AV 7) (A1 (AH (A1 (A8 (AF 0) (A0 5) (A5 (AE 0) (A5 (AT 0) (A0 9) (A2 0)) (AR (AX 0) m_len d4 (A1 (A0 5) (A3 0))))) (A1 (A0 10) (A3 0)))) (A3 0))))))))) (A4 (A6 11 nd (AD (A3 0))) (A4 (AY (BH (AV 7)) (BX 2 (AS (AL 12 nd (by first | exact ab1 rfl | exact ab2 rfl)) (AS (AL 10 nd (by first | exact ab1 rfl | exact ab2 rfl)) (BP 0)))) (A4 (A6 9 nd (AG h_law_next hr (A1 (A0 0) (A3 0)))) (A4 (A6 13 nd (A8 (AW 0) (AD (A1 (A5 (AN 0) (A2 0) (A5 (AE 0) (A5 (AT 0) (A0 9) (A2 0)) (A2 0))) (A1 (A5 (AN 0) (A2 0) (A5 (AE 0) (A5 (AT 0) (A0 9) (A2 0)) (A2 0))) (A1 (A5 (AN 0) (A2 0) (A5 (AE 0) (A5 (AT 0) (A0 9) (A2 0)) (A2 0))) (A3 0))))) (A5 (AE 0) (A0 9) (A2 0)))) (A7 (AO (AQ PySem.F.plainAttrs_list PySem.F.slot_list_append PySem.F.type_list_append (AU 0) (A0 11) (A1 (AH (A1 (A8 (AW 0) (A0 1) (A5 (AN 0) (A2 0) (AR (AX 0) m_len d4 (A1 (A0 11) (A3 0))))) (A1 (A0 12) (A1 (A0 13) (A1 (A0 10) (A1 (AG h_law_deeds hr (A1 (A0 5) (A1 (A0 10) (A3 0)))) (A3 0))))))) (A3 0)))))))) (A4 (A6 14 nd (A5 (AE 0) (A5 (AT 0) (AV 2) (A2 0)) (AR (AX 0) m_len d4 (A1 (A0 11) (A3 0))))) (A7 (AC (AH (A1 (A0 5) (A1 (AZ (BA 0) m_tuple dh (A1 (A5 (@op_cat _) (BV (@rq _) (A0 11) (BW (A0 14)) (@jd _)) (BV (@rq _) (A0 11) (@jd _) (BW (A0 14)))) (A3 0))) (A3 0)))))))))))))))))),?_⟩;rw[show start ["deck","names","cell","many","drawn","kinds","first","shapes","k","one","shape","rules","kind","price","at"] [.ref d,.ref nl]=[some (.ref d),some (.ref nl),none,none,none,none,none,none,none,none,none,none,none,none,none] from rfl];clear hu hu0 nd hr;push_cast [and_true];have sz:=sizeLine_eq;refine lu hD (by omega) λc H1 s1 d1=>?_;push_cast [and_true];have D1:=hD.next s1 d1
 have N1:=hN.lj hD s1;refine dy (λσ' H2=>∃many drawn:Nat,σ'=[some (.ref d),some (.ref nl),some (.int c),some (.int (many:Int)),some (.int (drawn:Int)),none,none,none,none,none,none,none,none,none,none]∧H1=H2∧1≤many∧many≤8∧3≤drawn∧drawn≤36) ?_ ?_
 ·push_cast [and_true];refine ⟨rfl,bz (λe=>⟨(1+c / 448 % 8).toNat,by omega,36,by rfl,by omega,by omega,by decide,by decide⟩) λe=>⟨(1+c % 3).toNat,by omega,(3+c / 7 % 8).toNat,by omega,by omega,by omega,by omega,by omega⟩⟩
 rintro _ _ ⟨many,drawn,rfl,rfl,m1,m2,r1,r2⟩;push_cast [and_true];have ct:ib (zs.map V.str) none (some (many:Int))=(zs.take many).map V.str:=by rw[mv _ many (by rw[aa1,hN.2.1];omega),adu]
 refine ⟨zs.map V.str,SqL.of N1.1,λp1 hp1=>?_⟩;rw[ct];refine ⟨_,.inl ⟨SqL.of ae,λkt hkt=>?_⟩⟩;obtain ⟨kinds,hkd⟩:∃kinds,kinds=zs.take many:=⟨_,rfl⟩;rw[←hkd];have kl:kinds.length=many:=by rw[hkd,aav,hN.2.1];omega
 have hk:Kinds kinds:=λz hz=>hN.2.2.2 z (aba (by rw[←hkd];exact hz));have q2:=(aa hp1 (.lst (kinds.map V.str))).trans (aa (by rw[←hkd] at hkt;exact hkt) (.tup (kinds.map V.str)));rw[←hkd] at hkt;have S2:ao d H (upd (upd H1 p1 (.lst (kinds.map V.str))) kt (.tup (kinds.map V.str))):=s1.trans (ao.of q2);have d2:=q2 _ _ d1;have k2:upd (upd H1 p1 (.lst (kinds.map V.str))) kt (.tup (kinds.map V.str)) kt=some (.tup (kinds.map V.str)):=ae;have N2:=N1.same q2;generalize upd (upd H1 p1 (.lst (kinds.map V.str))) kt (.tup (kinds.map V.str))=H2 at S2 d2 k2 N2 q2 ⊢;obtain ⟨z0,hz0,hk0⟩:∃z,atI (kinds.map V.str) 0=some (.str z)∧z∈kinds:=by
  cases kinds with
  | nil=>simp at kl;omega
  | cons z r=>exact ⟨z,bg (j:=0) rfl,aa9⟩
 refine au k2 hz0 ?_;refine dy (λσ' I9=>∃sl b1 b2 b3 b4:Addr,σ'=[some (.ref d),some (.ref nl),some (.int c),some (.int (many:Int)),some (.int (drawn:Int)),some (.ref kt),some (.str z0),some (.ref sl),none,none,none,none,none,none,none]∧ah H2 I9∧I9 sl=some (.lst [V.ref b1,V.ref b2,V.ref b3,V.ref b4])∧∀k':Nat,k' < 4→∃(a s:Addr) (sh:List V),atI [V.ref b1,V.ref b2,V.ref b3,V.ref b4] (k':Int)=some (.ref a)∧I9 a=some (.tup [.str z0,.ref s])∧I9 s=some (.tup sh)∧jr kinds sh) ?_ λσ' I9 hh=>?_
 ·push_cast [and_true];refine ⟨by show (1:Nat)≤sizeLine;decide,λa1 ha1=>?_⟩;have sa1:=aa ha1 (.tup [V.str (Str.ofString "any")]);have ea1:upd H2 a1 (.tup [V.str (Str.ofString "any")]) a1=some (.tup [V.str (Str.ofString "any")]):=ae;generalize upd H2 a1 (.tup [V.str (Str.ofString "any")])=I1 at sa1 ea1 ⊢;refine ⟨by show (2:Nat)≤sizeLine;decide,λb1 hb1=>?_⟩;have sb1:=aa hb1 (.tup [V.str z0,V.ref a1]);have eb1:upd I1 b1 (.tup [V.str z0,V.ref a1]) b1=some (.tup [V.str z0,V.ref a1]):=ae;generalize upd I1 b1 (.tup [V.str z0,V.ref a1])=I2 at sb1 eb1 ⊢;refine ⟨by show (1:Nat)≤sizeLine;decide,λa2 ha2=>?_⟩;have sa2:=aa ha2 (.tup [V.str (Str.ofString "var")]);have ea2:upd I2 a2 (.tup [V.str (Str.ofString "var")]) a2=some (.tup [V.str (Str.ofString "var")]):=ae;generalize upd I2 a2 (.tup [V.str (Str.ofString "var")])=I3 at sa2 ea2 ⊢;refine ⟨by show (2:Nat)≤sizeLine;decide,λb2 hb2=>?_⟩;have sb2:=aa hb2 (.tup [V.str z0,V.ref a2]);have eb2:upd I3 b2 (.tup [V.str z0,V.ref a2]) b2=some (.tup [V.str z0,V.ref a2]):=ae;generalize upd I3 b2 (.tup [V.str z0,V.ref a2])=I4 at sb2 eb2 ⊢;refine ⟨by show (3:Nat)≤sizeLine;decide,λa3 ha3=>?_⟩;have sa3:=aa ha3 (.tup [V.str (Str.ofString "add"),V.str z0,V.str z0]);have ea3:upd I4 a3 (.tup [V.str (Str.ofString "add"),V.str z0,V.str z0]) a3=some (.tup [V.str (Str.ofString "add"),V.str z0,V.str z0]):=ae;generalize upd I4 a3 (.tup [V.str (Str.ofString "add"),V.str z0,V.str z0])=I5 at sa3 ea3 ⊢;refine ⟨by show (2:Nat)≤sizeLine;decide,λb3 hb3=>?_⟩;have sb3:=aa hb3 (.tup [V.str z0,V.ref a3]);have eb3:upd I5 b3 (.tup [V.str z0,V.ref a3]) b3=some (.tup [V.str z0,V.ref a3]):=ae;generalize upd I5 b3 (.tup [V.str z0,V.ref a3])=I6 at sb3 eb3 ⊢;refine ⟨by show (2:Nat)≤sizeLine;decide,λa4 ha4=>?_⟩;have sa4:=aa ha4 (.tup [V.str (Str.ofString "neg"),V.str z0]);have ea4:upd I6 a4 (.tup [V.str (Str.ofString "neg"),V.str z0]) a4=some (.tup [V.str (Str.ofString "neg"),V.str z0]):=ae;generalize upd I6 a4 (.tup [V.str (Str.ofString "neg"),V.str z0])=I7 at sa4 ea4 ⊢;refine ⟨by show (2:Nat)≤sizeLine;decide,λb4 hb4=>?_⟩;have sb4:=aa hb4 (.tup [V.str z0,V.ref a4]);have eb4:upd I7 b4 (.tup [V.str z0,V.ref a4]) b4=some (.tup [V.str z0,V.ref a4]):=ae;generalize upd I7 b4 (.tup [V.str z0,V.ref a4])=I8 at sb4 eb4 ⊢;refine ⟨by show (4:Nat)≤sizeLine;decide,λsl hsl=>?_⟩;have ssl:=aa hsl (.lst [V.ref b1,V.ref b2,V.ref b3,V.ref b4]);have esl:upd I8 sl (.lst [V.ref b1,V.ref b2,V.ref b3,V.ref b4]) sl=some (.lst [V.ref b1,V.ref b2,V.ref b3,V.ref b4]):=ae;generalize upd I8 sl (.lst [V.ref b1,V.ref b2,V.ref b3,V.ref b4])=I9 at ssl esl ⊢;have u8:=sb4.trans ssl;have u7:=sa4.trans u8;have u6:=sb3.trans u7;have u5:=sa3.trans u6;have u4:=sb2.trans u5;have u3:=sa2.trans u4;have u2:=sb1.trans u3;have u1:=sa1.trans u2;have sh4:∀k':Nat,k' < 4→∃(a s:Addr) (sh:List V),atI [V.ref b1,V.ref b2,V.ref b3,V.ref b4] (k':Int)=some (.ref a)∧I9 a=some (.tup [.str z0,.ref s])∧I9 s=some (.tup sh)∧jr kinds sh:=λk' hk'=>by
   rcases k' with _ | _ | _ | _ | k'
   ·exact ⟨b1,a1,_,bg rfl,u3 _ _ eb1,u2 _ _ ea1,Ke kinds⟩
   ·exact ⟨b2,a2,_,bg rfl,u5 _ _ eb2,u4 _ _ ea2,Jx kinds⟩
   ·exact ⟨b3,a3,_,bg rfl,u7 _ _ eb3,u6 _ _ ea3,Jw hk hk0⟩
   ·exact ⟨b4,a4,_,bg rfl,ssl _ _ eb4,u8 _ _ ea4,L3 hk hk0⟩
   ·omega
  exact ⟨u1,b1,b2,b3,b4,esl,λk' hk'=>by obtain ⟨a,s,sh,h1,h2,h3,h4⟩:=sh4 k' hk';exact ⟨a,h1,s,h2,sh,h3,h4⟩⟩
 refine ob5 (hh) λsl b1 b2 b3 b4 hh=>?_;have u1:=hh.2.1;have esl:=hh.2.2.1;have sh4:=hh.2.2.2;obtain rfl:=hh.1;clear hh;have S9:ao d H I9:=S2.trans (ao.of u1);have d9:=u1 _ _ d2;have k9:=u1 _ _ k2;have N9:=N2.same u1;clear u1 q2 hkt N2 d2 k2 S2;push_cast [and_true];intro D hD';refine Jf (n:=4) (λj ys=>∃(sa:List Addr) (ps:List (Str×List V)),ys=sa.map V.ref∧fo I9 sa kinds ps∧ps.length≤j) (by omega) hD' ⟨[],[],rfl,fo.nil _ _,aa4 _⟩ (λj ys H3 G' K' hj hP hl2 hS' hG hK'=>?_) λys H3 hP hl2 hS' hD2=>?_
 ·obtain ⟨sa,ps,rfl,hsh,hpl⟩:=hP;obtain ⟨a,s,sh,g1,g2,g3,g4⟩:=sh4 j hj;obtain ⟨y,hy,hym⟩:=c7 [V.int 1,V.int 3,V.int 9,V.int 27] (0+(j:Int)) (by omega) (by show 0+(j:Int) < 4;omega);obtain ⟨y',rfl,hy0,hy1⟩:∃y':Int,y=.int y'∧0 < y'∧y' < 1073741824:=by
   simp only[aal,aa8,or_false] at hym;rcases hym with rfl | rfl | rfl | rfl <;> exact ⟨_,rfl,by decide,by decide⟩
  push_cast [om];refine ⟨by show (4:Nat)≤sizeLine;decide,λp4 hp4=>aw ae hy ⟨hy0,hy1,rfl,bz (λe=>?_) λe=>hG _ (aa hp4 _) ⟨sa,ps,rfl,hsh,by omega⟩⟩⟩;refine aw (aa hp4 _ _ _ (hS' _ _ esl)) (by rw[show (0+(j:Int))=((j:Nat):Int) by omega];exact g1) (hK' _ _ (aa hp4 _) ⟨sa++[a],ps++[(z0,sh)],by rw[aa6];rfl,hsh.snoc ⟨g4,hk0⟩ g2 g3,by rw[aa2,aac];omega⟩)
 ·obtain ⟨sa,ps,rfl,hsh,hpl⟩:=hP;have S10:=S9.trans (ao.of hS');have d10:=hS' _ _ d9;have k10:=hS' _ _ k9;have N10:=N9.same hS';have hsh10:=hsh.same hS';have fD:=S9.free d9 hD';have nDd:D≠d:=(af d9 hD').symm;have nt:∀{a:Addr} {xs:List V} {H':Hp} {n':Nat},H' d=some (.lst [.ref b,.int (n':Int)])→H' a=some (.tup xs)→a≠d:=λh1 h2=>gx h2 h1 (by intro e;cases e);refine ⟨by omega,by omega,?_⟩;rw[show ((drawn:Nat):Int).toNat=drawn by omega];obtain ⟨P1,eP1⟩:∃P1:Nat→L2.St→Hp→Prop,∀j σ H',P1 j σ H'↔∃(sa:List Addr) (ps:List (Str×List V)) (n':Nat) (v8 v9 v10:Option V),σ=[some (.ref d),some (.ref nl),some (.int c),some (.int (many:Int)),some (.int (drawn:Int)),some (.ref kt),some (.str z0),some (.ref D),v8,v9,v10,none,none,none,none]∧ao d H H'∧H' d=some (.lst [.ref b,.int (n':Int)])∧n'≤n+1+13*j∧H' D=some (.lst (sa.map V.ref))∧H' kt=some (.tup (kinds.map V.str))∧cx H' nl zs∧fo H' sa kinds ps∧ps.length≤4+j∧j≤ps.length:=⟨_,λ_ _ _=>abi⟩;refine gc (lo:=0) P1 ((eP1 _ _ _).mpr ⟨sa,ps,n+1,none,none,none,rfl,S10,d10,by omega,hD2,k10,N10,hsh10,by omega,aa7 _⟩) ?_ ?_
  ·intro j σ H5 hj hh;refine ob6 ((eP1 _ _ _).mp hh) λsa ps n' v8 v9 v10 hh=>?_;have s5:=hh.2.1;have d5:=hh.2.2.1;have hn5:=hh.2.2.2.1;have D5:=hh.2.2.2.2.1;have k5:=hh.2.2.2.2.2.1;have N5:=hh.2.2.2.2.2.2.1;have sh5:=hh.2.2.2.2.2.2.2.1;have pl5:=hh.2.2.2.2.2.2.2.2.1;have pj5:=hh.2.2.2.2.2.2.2.2.2;obtain rfl:=hh.1;clear hh;push_cast [and_true];refine lu (hD.next s5 d5) (by omega) λone H6 s6 d6=>?_;have S6:=s5.trans s6;have D6:=s6 D _ nDd D5;have k6:=s6 kt _ (nt d5 k5) k5;have N6:=N5.lj (hD.next s5 d5) s6;have sh6:=sh5.lj (hD.next s5 d5) s6;refine Ow (hD.next S6 d6) k6 hk (by omega) (by omega) (by omega) λt n2 H7 sh s7 d7 hn7 ht h7 ok7=>?_;push_cast [and_true];have Dk6:=hD.next S6 d6
   have S7:=S6.trans s7;have D7:=s7 D _ nDd D6;have k7:=s7 kt _ (nt d6 k6) k6;have N7:=N6.lj Dk6 s7;have sh7:=sh6.lj Dk6 s7;have kat:∀i:Int,∃z,atI (kinds.map V.str) (i % (((kinds.map V.str).length:Nat):Int))=some (.str z)∧z∈kinds:=λi=>by
    obtain ⟨y,hy,hym⟩:=c7 (kinds.map V.str) (i % (((kinds.map V.str).length:Nat):Int)) (aas _ (by rw[aa1];omega)) (acg _ (by rw[aa1];omega));obtain ⟨z,hz,rfl⟩:=List.mem_map.mp hym;exact ⟨z,hy,hz⟩
   refine dy (λσ' H8=>∃(t':Addr) (sh':List V),σ'=[some (.ref d),some (.ref nl),some (.int c),some (.int (many:Int)),some (.int (drawn:Int)),some (.ref kt),some (.str z0),some (.ref D),some (.int (0+(j:Int))),some (.int one),some (.ref t'),none,none,none,none]∧ah H7 H8∧H8 t'=some (.tup sh')∧jr kinds sh') ?_ ?_
   ·push_cast [om];refine ⟨rfl,bz (λe=>⟨_,.inr (SqT.of k7),by rw[aa1];omega,?_⟩) λe=>⟨ah.refl _,_,h7,ok7⟩⟩;obtain ⟨z,hz,hzk⟩:=kat (one / 5);exact au k7 hz ⟨by show (1:Nat)≤sizeLine;decide,λt' ht'=>⟨aa ht' _,_,ae,Ii hk hzk⟩⟩
   rintro _ H8 ⟨t',sh',rfl,s8,h8,ok8⟩;push_cast [om];obtain ⟨z,hz,hzk⟩:=kat (one / 15);refine ⟨ax (s8 _ _ D7),_,.inr (SqT.of (s8 _ _ k7)),by rw[aa1];omega,au (s8 _ _ k7) hz ⟨by show (2:Nat)≤sizeLine;decide,λpr hpr=>?_⟩⟩;have s9:=s8.trans (aa hpr (.tup [V.str z,V.ref t']));have S9':=S7.trans (ao.of s9);have e9:upd H8 pr (.tup [V.str z,V.ref t']) pr=some (.tup [V.str z,V.ref t']):=ae;have h9:=aa hpr (.tup [V.str z,V.ref t']) _ _ h8;generalize upd H8 pr (.tup [V.str z,V.ref t'])=H9 at s9 S9' e9 h9 ⊢;have sal:sa.length=ps.length:=sh5.1;have uD:ah H9 (upd H9 D (.lst (sa.map V.ref++[V.ref pr])))∨True:=.inr trivial;have tD:∀{a:Addr} {xs:List V},H9 a=some (.tup xs)→upd H9 D (.lst (sa.map V.ref++[V.ref pr])) a=some (.tup xs):=λh=>by rw[ag (gx h (s9 _ _ D7) (by intro e;cases e))];exact h
   have sh9:=(sh7.same s9).snoc ⟨ok8,hzk⟩ e9 h9;refine (bb (K:=K) (s9 _ _ D7) (by rw[aa1];omega) ((eP1 _ _ _).mpr ⟨sa++[pr],ps++[(z,sh')],n2,_,_,_,rfl,S9'.upd fD _,by rw[ag nDd.symm];exact s9 _ _ d7,by omega,by rw[ae,aa6];rfl,tD (s9 _ _ k7),⟨?_,N7.2⟩,⟨sh9.1,λi k' s' hi=>?_⟩,by rw[aa2,aac];omega,by rw[aa2,aac];omega⟩)).2
   ·rw[ag (af hN.1 fD)];exact s9 _ _ N7.1
   ·obtain ⟨o1,a,t,x1,x2,x3⟩:=sh9.2 i k' s' hi;exact ⟨o1,a,t,x1,tD x2,tD x3⟩
  ·intro σ H5 hh;refine ob6 ((eP1 _ _ _).mp hh) λsa ps n' v8 v9 v10 hh=>?_;have s5:=hh.2.1;have d5:=hh.2.2.1;have hn5:=hh.2.2.2.1;have D5:=hh.2.2.2.2.1;have k5:=hh.2.2.2.2.2.1;have N5:=hh.2.2.2.2.2.2.1;have sh5:=hh.2.2.2.2.2.2.2.1;have pl5:=hh.2.2.2.2.2.2.2.2.1;have pj5:=hh.2.2.2.2.2.2.2.2.2;obtain rfl:=hh.1;clear hh;push_cast [and_true];refine ⟨aa7 _,λrl hrl=>⟨⟨_,SqL.of (aa hrl _ _ _ D5)⟩,?_⟩⟩;have frl:=s5.free d5 hrl;have nrd:rl≠d:=(af d5 hrl).symm;have S6:=s5.trans (ao.of (aa hrl (.lst [])));have d6:=aa hrl (.lst []) _ _ d5;have D6:=aa hrl (.lst []) _ _ D5;have k6:=aa hrl (.lst []) _ _ k5;have N6:=N5.same (aa hrl (.lst []));have sh6:=sh5.same (aa hrl (.lst []));have r6:upd H5 rl (.lst []) rl=some (.lst []):=ae;have nrD:rl≠D:=(af D5 hrl).symm;generalize upd H5 rl (.lst [])=H6 at S6 d6 D6 k6 N6 sh6 r6 ⊢;have sal:sa.length=ps.length:=sh5.1;obtain ⟨P2,eP2⟩:∃P2:Nat→L2.St→Hp→Prop,∀i σ H',P2 i σ H'↔∃(ra:List Addr) (rs:List Rl) (m:Nat) (w8 w9 w10 w12 w13:Option V),σ=[some (.ref d),some (.ref nl),some (.int c),some (.int (many:Int)),some (.int (drawn:Int)),some (.ref kt),some (.str z0),some (.ref D),w8,w9,w10,some (.ref rl),w12,w13,none]∧ao d H H'∧H' d=some (.lst [.ref b,.int (m:Int)])∧m≤n'+i∧H' D=some (.lst (sa.map V.ref))∧H' kt=some (.tup (kinds.map V.str))∧cx H' nl zs∧fo H' sa kinds ps∧H' rl=some (.lst (ra.map V.ref))∧cv H' ra rs∧rs.length=i∧rs.map (·.name)=(zs.drop 8).take i∧∀r∈rs,jr kinds r.shape∧1≤r.price∧r.kind∈kinds:=⟨_,λ_ _ _=>abi⟩;refine gq (xs:=sa.map V.ref) P2 ((eP2 _ _ _).mpr ⟨[],[],n',v8,v9,v10,none,none,rfl,S6,d6,by omega,D6,k6,N6,sh6,r6,⟨rfl,λi r h=>by simp at h⟩,rfl,rfl,λ_ h=>nomatch h⟩) (λi σ H' _ h=>by obtain ⟨_,_,_,_,_,_,_,_,_,_,_,_,hd,_⟩:=(eP2 _ _ _).mp h;exact SqL.of hd) ?_ ?_
   ·intro i y σ H7 hy hh;refine ob8 ((eP2 _ _ _).mp hh) λra rs m w8 w9 w10 w12 w13 hh=>?_;have s7:=hh.2.1;have d7:=hh.2.2.1;have hm7:=hh.2.2.2.1;have D7:=hh.2.2.2.2.1;have k7:=hh.2.2.2.2.2.1;have N7:=hh.2.2.2.2.2.2.1;have sh7:=hh.2.2.2.2.2.2.2.1;have r7:=hh.2.2.2.2.2.2.2.2.1;have R7:=hh.2.2.2.2.2.2.2.2.2.1;have rl7:=hh.2.2.2.2.2.2.2.2.2.2.1;have nm7:=hh.2.2.2.2.2.2.2.2.2.2.2.1;have so7:=hh.2.2.2.2.2.2.2.2.2.2.2.2;obtain rfl:=hh.1;clear hh;rw[aaa] at hy;obtain ⟨ai,hai,rfl⟩:=Option.map_eq_some_iff.mp hy;have hil:i < ps.length:=by rw[←sal];exact (List.getElem?_eq_some_iff.mp hai).1
    obtain ⟨⟨ki,shi⟩,hpi⟩:∃t,ps[i]?=some t:=⟨_,aa0 hil⟩;obtain ⟨oki,a',si,x1,x2,x3⟩:=sh7.2 i ki shi hpi;obtain rfl:a'=ai:=aa3 (x1.symm.trans hai);have hD7:=hD.next s7 d7
    refine Bq x2 rfl ?_;push_cast [and_true];refine lu hD7 (by omega) λone H8 s8 d8=>?_;push_cast [om];refine ⟨by show (3:Nat)≤sizeLine;decide,λp hp=>?_⟩;obtain ⟨y,hy,hym⟩:=c7 [V.int (1+one / 3 % 4),V.int (1+one / 3 % 30),V.int (1+one / 3 % 999999)] (one % 3) (aas _ (by decide)) (acg _ (by decide));obtain ⟨y',rfl,hy1⟩:∃y':Int,y=.int y'∧1≤y':=by
     simp only[aal,aa8,or_false] at hym;rcases hym with rfl | rfl | rfl <;> exact ⟨_,rfl,by omega⟩
    refine aw ae hy ?_;have S8:=s7.trans (s8.trans (ao.of (aa hp (.lst [V.int (1+one / 3 % 4),V.int (1+one / 3 % 30),V.int (1+one / 3 % 999999)]))));have s8':=s8.trans (ao.of (d:=d) (aa hp (.lst [V.int (1+one / 3 % 4),V.int (1+one / 3 % 30),V.int (1+one / 3 % 999999)])));have d8':=aa hp (.lst [V.int (1+one / 3 % 4),V.int (1+one / 3 % 30),V.int (1+one / 3 % 999999)]) _ _ d8;generalize upd H8 p (.lst [V.int (1+one / 3 % 4),V.int (1+one / 3 % 30),V.int (1+one / 3 % 999999)])=H9 at S8 s8' d8' ⊢;have r9:=s8' rl _ nrd r7;have D9:=s8' D _ nDd D7;have k9':=ku hD7 s8' k7;have N9':=N7.lj hD7 s8';have sh9:=sh7.lj hD7 s8';have R9:=R7.keep (ku hD7 s8');have x39:=ku hD7 s8' x3;have ral:ra.length=i:=by rw[R7.1,rl7]
    have hzl:=hN.2.1;have hz8:zs[8+i]?=some zs[8+i]:=aa0 (by omega);refine ⟨ax r9,_,.inl (SqL.of r9),aw (v:=.str zs[8+i]) N9'.1 ?_ (Py k9' x39 hk oki.1 λt ds H10 s10 h10=>⟨by show (5:Nat)≤sizeLine;decide,λpr hpr=>?_⟩)⟩
    ·rw[aa1,ral,show (8:Int)+(i:Int)=((8+i:Nat):Int) by omega];exact bg (by rw[aaa,hz8];rfl)
    have e11:upd H10 pr (.tup [V.str zs[8+i],V.str ki,V.int y',V.ref si,V.ref t]) pr=some (.tup [V.str zs[8+i],V.str ki,V.int y',V.ref si,V.ref t]):=ae;have q11:=aa hpr (.tup [V.str zs[8+i],V.str ki,V.int y',V.ref si,V.ref t]);have s11:=s10.trans q11;have h11:=q11 _ _ h10;clear q11;generalize upd H10 pr (.tup [V.str zs[8+i],V.str ki,V.int y',V.ref si,V.ref t])=H11 at e11 s11 h11 ⊢;have S11:=S8.trans (ao.of s11);have r11:=s11 _ _ r9;have R11:=(R9.same s11).snoc (r:=⟨zs[8+i],ki,y',shi⟩) ⟨si,t,ds,e11,s11 _ _ x39,h11⟩;have tD:∀{a:Addr} {xs:List V},H11 a=some (.tup xs)→upd H11 rl (.lst (ra.map V.ref++[V.ref pr])) a=some (.tup xs):=λh=>by rw[ag (gx h r11 (by intro e;cases e))];exact h
    refine (bb (K:=K) r11 (by rw[aa1];omega) ((eP2 _ _ _).mpr ⟨ra++[pr],rs++[⟨zs[8+i],ki,y',shi⟩],m+1,_,_,_,_,_,rfl,S11.upd frl _,by rw[ag nrd.symm];exact s11 _ _ d8',by omega,by rw[ag nrD.symm];exact s11 _ _ D9,tD (s11 _ _ k9'),⟨?_,hN.2⟩,(sh9.same s11).keep tD,by rw[ae,aa6];rfl,R11.keep tD,by rw[aa2,aac,rl7],Eg nm7 hz8,λr' hr'=>?_⟩)).2
    ·rw[ag (af hN.1 frl)];exact s11 _ _ N9'.1
    ·rcases List.mem_append.mp hr' with g | g
     ·exact so7 r' g
     ·rw[List.mem_singleton.mp g];exact ⟨oki.1,hy1,oki.2⟩
   ·intro σ H7 hh;refine ob8 ((eP2 _ _ _).mp hh) λra rs m w8 w9 w10 w12 w13 hh=>?_;have s7:=hh.2.1;have d7:=hh.2.2.1;have hm7:=hh.2.2.2.1;have D7:=hh.2.2.2.2.1;have k7:=hh.2.2.2.2.2.1;have N7:=hh.2.2.2.2.2.2.1;have sh7:=hh.2.2.2.2.2.2.2.1;have r7:=hh.2.2.2.2.2.2.2.2.1;have R7:=hh.2.2.2.2.2.2.2.2.2.1;have rl7:=hh.2.2.2.2.2.2.2.2.2.2.1;have nm7:=hh.2.2.2.2.2.2.2.2.2.2.2.1;have so7:=hh.2.2.2.2.2.2.2.2.2.2.2.2;obtain rfl:=hh.1;clear hh;push_cast [and_true];have ral:ra.length=rs.length:=R7.1;rw[aa1] at hm7 rl7 nm7;rw[←rl7] at nm7;have rsl:rs.length=ps.length:=by rw[rl7,sal]
    obtain ⟨at',hat,hlt⟩:∃a:Nat,c / 11 % (((ra.map V.ref).length:Nat):Int)=(a:Int)∧a < ra.length:=⟨(c / 11 % (((ra.map V.ref).length:Nat):Int)).toNat,by
     rw[aa1];have h1:=aas (c / 11) (show ((ra.length:Nat):Int)≠0 by omega);omega,by
     rw[aa1];have h1:=aas (c / 11) (show ((ra.length:Nat):Int)≠0 by omega);have h2:=acg (c / 11) (show (0:Int) < ((ra.length:Nat):Int) by omega);omega⟩
    refine ⟨_,.inl (SqL.of r7),by rw[aa1];omega,_,SqL.of r7,λp hp=>?_⟩;rw[hat];have c1:ib (ra.map V.ref) (some (at':Int)) none=(ra.drop at').map V.ref:=by
     have:=K4 (ra.map V.ref) at' 0 (by rw[aa1];omega);rw[show ((at':Int)+((0:Nat):Int))=(at':Int) by omega,Nat.add_zero] at this;rw[this,ac7]
    have c2:ib (ra.map V.ref) none (some (at':Int))=(ra.take at').map V.ref:=by rw[mv _ _ (by rw[aa1];omega),adu]
    rw[c1] at*;refine ⟨_,SqL.of (aa hp _ _ _ r7),λp2 hp2=>?_⟩;rw[c2];refine Ox (aa hp2 _ _ _ ae) ae (by rw[aa1,aa1,aan,aav];omega) λp3 hp3=>⟨_,.inl ⟨SqL.of ae,λt ht=>⟨by show (2:Nat)≤sizeLine;decide,λbt hbt=>?_⟩⟩⟩;have s8:=(aa hp (.lst ((ra.drop at').map V.ref))).trans ((aa hp2 (.lst ((ra.take at').map V.ref))).trans ((aa hp3 (.lst ((ra.drop at').map V.ref++(ra.take at').map V.ref))).trans ((aa ht (.tup ((ra.drop at').map V.ref++(ra.take at').map V.ref))).trans (aa hbt (.tup [V.ref kt,V.ref t])))));refine q bt m _ kinds (rs.drop at'++rs.take at') (s7.trans (ao.of s8)) (s8 _ _ d7) (by omega) ⟨kt,t,ra.drop at'++ra.take at',ae,s8 _ _ k7,?_,(R7.rot at').same s8⟩ (bk_rot hk (by rw[hkd];exact hN.2.2.1.sublist (ad4 _ _)) (by omega) hN.2.2.1 nm7 so7 (by omega) at') (by rw[aa2,aan,aav];omega) (Ib nm7 at') (λz hz=>aba (hkd ▸ hz));rw[aa6];exact aa hbt _ _ _ ae
noncomputable abbrev Dh:Stmt:=top 30
theorem Fu:av ["deck","own","letters","cell","more","tail","names","k","sign","name"] ["deck"] (ak Dh):=⟨rfl,rfl,rfl,by decide+kernel,rfl,by decide+kernel,by decide+kernel⟩
theorem Nj (G:Gs w K mg κ) (h_law_next:Has P w K mg base k "_law_next" ["deck"] jw) (D:Def K mg "_law_names" Dh ["deck"]):Has P w K mg base (k+1) "_law_names" ["deck"] vg:=by
 refine D.has Fu (λvs H Q E h=>?_) (λf cdv A outer s H vs Q E hr h=>?_)
 ·obtain ⟨_,_,_,_,rfl,_,_,_⟩:=h;rfl
 have nd:=Fu.nd;have hu:=b8 hr;have hu0:=aah hu;obtain ⟨d,b,ns,n,rfl,hD,hn,q⟩:=h;have m_range:=G.m_range;refine ⟨_,(A4 (A6 1 nd (AD (BD (AI (AI (AI (AI (AI (AI (AI (AI (AI (BE 0))))))))))))) (A4 (A6 2 nd (AJ 0)) (A4 (A6 3 nd (AG h_law_next hr (A1 (A0 0) (A3 0)))) (A4 (A6 4 nd (A5 (AT 0) (A0 3) (A2 0))) (A4 (A6 5 nd (A5 (@ly _) (A8 (@jz _) (A0 2) (A5 (AE 0) (A5 (AT 0) (A0 4) (A2 0)) (A2 0))) (A5 (AE 0) (A5 (AT 0) (A0 4) (A2 0)) (A2 0)))) (A4 (A6 6 nd (AD (A3 0))) (A4 (AY (BU m_range (A1 (A2 0) (A3 0))) (AL 7 nd (by first | exact ab1 rfl | exact ab2 rfl)) (A4 (A6 8 nd (A8 (@jz _) (A0 2) (A5 (AE 0) (A5 (AN 0) (A0 4) (A0 7)) (A2 0)))) (A4 (A6 9 nd (A5 (BQ 0) (A5 (BQ 0) (A0 8) (A8 (@jz _) (A0 2) (A5 (AE 0) (A5 (AN 0) (A5 (AT 0) (A0 4) (A2 0)) (A5 (AT 0) (A0 7) (A2 0))) (A2 0)))) (A0 5))) (BC (AB (AA (AM 0) (A5 (AE 0) (A0 3) (A2 0)) (A2 0) (A9 0)) (A7 (A6 9 nd (A5 (BQ 0) (A8 (AW 0) (A0 1) (A5 (AE 0) (A5 (AN 0) (A0 7) (A0 4)) (A2 0))) (A8 (@jz _) (A0 2) (A5 (AE 0) (A5 (AN 0) (A5 (AT 0) (A0 4) (A2 0)) (A5 (AT 0) (A0 7) (A2 0))) (A2 0)))))) (AK 0)) (BC (AB (AA (AM 0) (A5 (AE 0) (A0 3) (A2 0)) (A2 0) (A9 0)) (A4 (A6 9 nd (A5 (@ly _) (A8 (@jz _) (A0 2) (A5 (AE 0) (A0 4) (A2 0))) (A5 (AN 0) (A2 0) (A5 (AE 0) (A0 7) (A2 0))))) (A4 (A6 9 nd (A5 (BQ 0) (A0 9) (A5 (@ly _) (A8 (@jz _) (A0 2) (A5 (AE 0) (A5 (AN 0) (A0 4) (A2 0)) (A2 0))) (A5 (AE 0) (A5 (AT 0) (A0 7) (A2 0)) (A2 0))))) (A7 (A6 9 nd (A5 (BQ 0) (A0 9) (A8 (@jz _) (A0 2) (A5 (AE 0) (A5 (AN 0) (A5 (AN 0) (A0 4) (A2 0)) (A5 (AT 0) (A0 7) (A2 0))) (A2 0)))))))) (AK 0)) (BC (AB (BG (BL 0) (A0 9) (A0 1)) (A7 (A6 9 nd (A5 (BQ 0) (A0 9) (AJ 0)))) (AK 0)) (A7 (AO (AQ PySem.F.plainAttrs_list PySem.F.slot_list_append PySem.F.type_list_append (AU 0) (A0 6) (A1 (A0 9) (A3 0))))))))))) (A7 (AC (A0 6)))))))))),?_⟩;rw[show start ["deck","own","letters","cell","more","tail","names","k","sign","name"] [.ref d]=[some (.ref d),none,none,none,none,none,none,none,none,none] from rfl];clear hu hu0 nd hr;push_cast [and_true];have sz:=sizeLine_eq;refine ⟨by show (9:Nat)≤sizeLine;decide,λp hp=>lu (hD.same (aa hp _)) (by omega) λc H1 s1 d1=>?_⟩;push_cast [om];refine g6 ⟨_,rfl,by omega,by omega,by show (1:Nat)≤1000;decide,aa7 _,λl hl=>?_⟩;have npd:p≠d:=(af hD.1 hp).symm;have p1:H1 p=some (.lst (dj.map V.str)):=s1 p _ npd ae;have S1:ao d H H1:=(ao.of (aa hp (.lst (dj.map V.str)))).trans s1;have fl:=S1.free d1 hl;have nld:l≠d:=(af d1 hl).symm;have nlp:l≠p:=(af p1 hl).symm;obtain ⟨P1,eP1⟩:∃P1:Nat→L2.St→Hp→Prop,∀j σ H',P1 j σ H'↔∃v7 v8 v9:Option V,σ=[some (.ref d),some (.ref p),some (.str Cy),some (.int c),some (.int (c / 3)),some (.str (ql (c / 3))),some (.ref l),v7,v8,v9]∧ao d H H'∧H' d=some (.lst [.ref b,.int ((n+1:Nat):Int)])∧H' p=some (.lst (dj.map V.str))∧H' l=some (.lst ((aaq j).map λk=>V.str (nmP c k))):=⟨_,λ_ _ _=>abi⟩;refine gc (lo:=0) P1 ((eP1 _ _ _).mpr ⟨none,none,none,rfl,S1.upd fl _,aa hl _ _ _ d1,aa hl _ _ _ p1,ae⟩) ?_ ?_
 ·intro j σ H5 hj hh;refine ob3 ((eP1 _ _ _).mp hh) λv7 v8 v9 hh=>?_;have s5:=hh.2.1;have d5:=hh.2.2.1;have p5:=hh.2.2.2.1;have l5:=hh.2.2.2.2;obtain rfl:=hh.1;clear hh;push_cast [and_true];simp only[Int.zero_add];refine g6 (g6 ⟨_,rfl,_,rfl,by rw[dw,dw];omega,by have:=Ge (c / 3) (c / 3) j;unfold nm0 at this;rw[Str.length_append] at this;omega,?_⟩);refine dy (λσ' H6=>σ'=[some (.ref d),some (.ref p),some (.str Cy),some (.int c),some (.int (c / 3)),some (.str (ql (c / 3))),some (.ref l),some (.int (j:Int)),some (.str (ltr (c / 3+(j:Int)))),some (.str (if c % 3=1 then nm1 (c / 3) j else nm0 (c / 3) (ql (c / 3)) j))]∧H5=H6) ?_ ?_
  ·push_cast [and_true];refine ⟨rfl,bz (λe=>?_) λe=>?_⟩
   ·rw[if_pos e];have b1:(((j:Int)+c / 3) % 9).toNat < dj.length:=by show _ < 9;omega
    have g:=G6 (c / 3) j;have g2:nm1 (c / 3) j=dj[(((j:Int)+c / 3) % 9).toNat]++ltr (c / 3 / 9+(j:Int) / 9):=by
     unfold nm1;rw[aae,aa0 b1];rfl
    refine aw (v:=.str dj[(((j:Int)+c / 3) % 9).toNat]) p5 ?_ (g6 ⟨_,rfl,_,rfl,?_,g2.symm,rfl⟩)
    ·have g3:((((j:Int)+c / 3) % 9).toNat:Int)=((j:Int)+c / 3) % 9:=by omega
     have g4:=bg (xs:=dj.map V.str) (j:=(((j:Int)+c / 3) % 9).toNat) (v:=.str dj[(((j:Int)+c / 3) % 9).toNat]) (by rw[aaa,aa0 b1];rfl);rw[g3] at g4;exact g4
    ·rw[g2,Str.length_append] at g;omega
   ·rw[if_neg e];rfl
  rintro _ _ ⟨rfl,rfl⟩;refine dy (λσ' H6=>∃v8:Option V,σ'=[some (.ref d),some (.ref p),some (.str Cy),some (.int c),some (.int (c / 3)),some (.str (ql (c / 3))),some (.ref l),some (.int (j:Int)),v8,some (.str (nmX c j))]∧H5=H6) ?_ ?_
  ·push_cast [and_true];refine ⟨rfl,bz (λe=>?_) λe=>?_⟩
   ·refine g6 ⟨_,rfl,by omega,by omega,by rw[dw];omega,g6 ⟨_,rfl,by omega,by omega,by rw[dw];omega,by rw[kj,kj];omega,g6 ⟨_,rfl,by rw[Str.length_append,kj,kj,dw];omega,?_,rfl⟩⟩⟩;unfold nmX;rw[if_pos e];rfl
   ·unfold nmX;rw[if_neg e]
  rintro _ _ ⟨v8',rfl,rfl⟩;refine dy (λσ' H6=>∃v8:Option V,σ'=[some (.ref d),some (.ref p),some (.str Cy),some (.int c),some (.int (c / 3)),some (.str (ql (c / 3))),some (.ref l),some (.int (j:Int)),v8,some (.str (nmP c j))]∧H5=H6) ?_ ?_
  ·push_cast [rIn];have g:=Gq c j;have hx:(Str.ofString "xq").length=2:=An;refine ⟨_,.inl (SqL.of p5),rfl,List.all_eq_true.mpr λx hx=>by obtain ⟨z,_,rfl⟩:=List.mem_map.mp hx;rfl,bz (λe=>⟨by omega,?_⟩) λe=>?_⟩
   ·unfold nmP;rw[if_pos ((Np _).mp e)]
   ·unfold nmP;rw[if_neg λh=>e ((Np _).mpr h)]
  rintro _ _ ⟨v8'',rfl,rfl⟩;push_cast [and_true];refine bb l5 (by rw[aa1,aby];omega) ((eP1 _ _ _).mpr ⟨_,_,_,rfl,s5.upd fl _,by rw[ag nld.symm];exact d5,by rw[ag nlp.symm];exact p5,?_⟩);rw[ae,ae9,aa6];rfl
 ·intro σ H5 hh;refine ob3 ((eP1 _ _ _).mp hh) λv7 v8 v9 hh=>?_;have s5:=hh.2.1;have d5:=hh.2.2.1;have p5:=hh.2.2.2.1;have l5:=hh.2.2.2.2;obtain rfl:=hh.1;clear hh;push_cast [and_true];exact q l H5 _ s5 d5 (El l5) (Li c)
noncomputable abbrev zb:Stmt:=top 37
theorem Ax:av ["kinds","shape"] ["kinds","shape"] (ak zb):=⟨rfl,rfl,rfl,by decide+kernel,rfl,by decide+kernel,by decide+kernel⟩
theorem Il (G:Gs w K mg κ) (D:Def K mg "_law_holes" zb ["kinds","shape"]):Has P w K mg base (k+1) "_law_holes" ["kinds","shape"] (m4 K):=by
 refine D.has Ax (λvs H Q E h=>?_) (λf cdv A outer s H vs Q E hr h=>?_)
 ·obtain ⟨_,_,_,_,rfl,_,_,_,_,_⟩:=h;rfl
 have nd:=Ax.nd;have hu:=b8 hr;have hu0:=aah hu;obtain ⟨kt,st,kinds,sh,rfl,hK,hS,hw,hl,q⟩:=h;refine ⟨_,(A7 (AC (BS (BO ["word"] ["kinds"] [0] (aat rfl trivial) (aat (aat rfl (aat rfl rfl)) trivial)) (BJ (A0 1)) (λ_ _ _=>(B7 0 (show abf (["word","kinds"]:List Str) by decide+kernel))) (λ_ _ _=>(@pif1 _ _ _ (BG (@mi _ K rfl) (A0 0) (AV 1)))) (λ_ _ _=>(A0 0))))),?_⟩;rw[show start ["kinds","shape"] [.ref kt,.ref st]=[some (.ref kt),some (.ref st)] from rfl];clear hu hu0 nd hr;push_cast [and_true];have sz:=sizeLine_eq;have fl:(kinds.map V.str).all il=true:=List.all_eq_true.mpr λx hx=>by obtain ⟨z,_,rfl⟩:=List.mem_map.mp hx;rfl
 refine ⟨⟨sh,hS⟩,λD hD=>E6 (xs:=sh) (λi ys=>ys=(sh.take i).filter (isH kinds)) hS (by omega) hD rfl (λi x ys H3 G' K' hx hP hl2 hS' hG hK'=>?_) λys H3 hP hl2 hS' hD2=>?_⟩
 ·have hxw:=hw x (aaf hx);have et:sh.take (i+1)=sh.take i++[x]:=by rw[ab4,hx];rfl
  push_cast [rIn];refine ⟨_,.inr (hS'.tup hK),hxw.flat,fl,bz (λe=>?_) λe=>?_⟩
  ·rw[yx hxw] at e;refine hK' _ _ (ah.refl _) ?_;rw[et,abd,←hP,aap,if_pos e];rfl
  ·rw[yx hxw] at e;refine hG _ (ah.refl _) ?_;rw[et,abd,←hP,aap,if_neg e];exact (ab3 _).symm
 ·rw[abj,←iq] at hP;subst hP;exact q D H3 hS' hD hD2
noncomputable abbrev yi:Stmt:=top 40
theorem Bz:av ["book","words","kind","found"] ["book","words","kind"] (ak yi):=⟨rfl,rfl,rfl,by decide+kernel,rfl,by decide+kernel,by decide+kernel⟩
theorem Io (G:Gs w K mg κ) (h_cheapest:j3 P w K mg base k "cheapest" ["book","words","kind"] (vh κ)) (D:Def K mg "_law_told" yi ["book","words","kind"]):Has P w K mg base (k+1) "_law_told" ["book","words","kind"] uq:=by
 refine D.has Bz (λvs H Q E h=>?_) (λf cdv A outer s H vs Q E hr h=>?_)
 ·obtain ⟨_,_,_,_,_,_,_,rfl,_,_,_,_,_,_,_,_,_,_⟩:=h;rfl
 have nd:=Bz.nd;have hu:=b8 hr;have hu0:=aah hu;obtain ⟨b,wt,kd,kinds,rs,ws,g,rfl,hB,hW,bk,tw,hkd,kz,rz,T,q0,q⟩:=h;have m_NoCover:=G.er.m_noCover;refine ⟨_,(A4 (A6 3 nd (@o7 _ _ _)) (A4 (Ra (ad1 _ (ad1 _ (ad1 _ (aat rfl (aat rfl rfl))))) G.er.x_noCover m_NoCover (@Pa _ _ _ _ _ _ _ _ _ _ _ 3 _ _ nd rfl (ab1 rfl) h_cheapest hr (A1 (A0 0) (A1 (A0 1) (A1 (A0 2) (A3 0)))) rfl (by decide+kernel) rfl rfl rfl (.inl rfl)) (λ_=>(A7 (A6 3 nd (@o7 _ _ _))))) (A7 (AC (A0 3))))),?_⟩;rw[show start ["book","words","kind","found"] [.ref b,.ref wt,.str kd]=[some (.ref b),some (.ref wt),some (.str kd),none] from rfl];clear hu hu0 nd hr;push_cast [and_true];have er:=G.er;push_cast [tTry0,tXSet];refine Nc hB hW bk tw hkd kz rz (λt H' g' v s' ht T' hv hT=>?_) λH2 g' s2 T' hg'=>?_
 ·obtain rfl:g=g':=T.eq T' (my bk);exact q v t H' hv s' hT
 ·obtain rfl:g=g':=T.eq T' (my bk);exact ⟨κ.noCover,rfl,cbm κ,er.x_noCover,by rw[isC,decide_eq_true (rfl:κ.noCover=κ.noCover),Bool.true_or],q0 hg' H2 s2⟩
noncomputable abbrev zm:Stmt:=top 39
theorem G8:av ["book","words","ends","key","rule","spots","known","price","spot","kind","barred","one"] ["book","words","ends","key","rule","spots","known"] (ak zm):=⟨rfl,rfl,rfl,by decide+kernel,rfl,by decide+kernel,by decide+kernel⟩
theorem Nq (G:Gs w K mg κ) (h_law_best:Has P w K mg base k "_law_best" ["book","words","ends","key","known"] (lr P w n)) (h_law_holes:Has P w K mg base k "_law_holes" ["kinds","shape"] (m4 K)) (D:Def K mg "_law_with_holes" zm ["book","words","ends","key","rule","spots","known"]):Has P w K mg base (k+1) "_law_with_holes" ["book","words","ends","key","rule","spots","known"] (Aj P w n):=by
 refine D.has G8 (λvs H Q E h=>?_) (λf cdv A outer s H vs Q E hr h=>?_)
 ·obtain ⟨_,_,_,_,_,_,_,_,_,_,_,_,_,_,_,_,_,rfl,_,_,_,_,_,_,_,_,_,_,_,_,_,_,_⟩:=h;rfl
 have nd:=G8.nd;have hu:=b8 hr;have hu0:=aah hu;obtain ⟨b,wt,et,ka,ra,sa,d,kinds,rs,ws,g,p,kd,bs,r,u,kvs,rfl,hB,hW,hE,hK,hR,hS,bk,tw,T,ko,hm,hr0,hla,kn,q⟩:=h;have m_sorted:=G.m_sorted;have m_tuple:=G.m_tuple;have m_zip:=G.m_zip;refine ⟨_,(A4 (A6 7 nd (A8 (AF 0) (A0 4) (A2 0))) (A4 (AY (@pi_zip _ true _ _ _ _ _ _ rfl m_zip (ab2 (ad1 _ (ad1 _ (ad1 _ rfl)))) (A1 (A0 5) (A1 (AG h_law_holes hr (A1 (A8 (AF 0) (A0 0) (A2 0)) (A1 (A8 (AF 0) (A0 4) (A2 0)) (A3 0)))) (A3 0))) rfl rfl) (BX 2 (AS (AL 8 nd (by first | exact ab1 rfl | exact ab2 rfl)) (AS (AL 9 nd (by first | exact ab1 rfl | exact ab2 rfl)) (BP 0)))) (A4 (A6 10 nd (AH (A3 0))) (BC (AB (AA (AM 0) (A0 8) (A8 (AF 0) (A0 3) (A2 0)) (A9 0)) (A7 (A6 10 nd (AZ (BA 0) m_tuple dh (A1 (AR (@ji _) m_sorted vd (A1 (A5 (@Gx _) (A8 (AF 0) (A0 3) (A2 0)) (AH (A1 (A8 (AF 0) (A0 3) (A2 0)) (A3 0)))) (A3 0))) (A3 0))))) (AK 0)) (A4 (AB (BG (BL 0) (A0 9) (A0 10)) (A7 (AC (A2 0))) (AK 0)) (A4 (A6 11 nd (AG h_law_best hr (A1 (A0 0) (A1 (A0 1) (A1 (A0 2) (A1 (AH (A1 (A0 8) (A1 (A0 9) (A1 (A0 10) (A3 0))))) (A1 (A0 6) (A3 0)))))))) (A4 (AB (AA (AM 0) (A0 11) (A2 0) (A9 0)) (A7 (AC (A2 0))) (AK 0)) (A7 (A6 7 nd (A5 (AN 0) (A0 7) (A0 11)))))))))) (A7 (AC (A0 7))))),?_⟩;rw[show start ["book","words","ends","key","rule","spots","known","price","spot","kind","barred","one"] [.ref b,.ref wt,.ref et,.ref ka,.ref ra,.ref sa,.ref d]=[some (.ref b),some (.ref wt),some (.ref et),some (.ref ka),some (.ref ra),some (.ref sa),some (.ref d),none,none,none,none,none] from rfl];clear hu hu0 nd hr;push_cast [and_true];have sz:=sizeLine_eq;obtain ⟨rsa,da,ds,r1,r2,r3⟩:=id hR;obtain ⟨w1,w2,w3⟩:=bk.sh r hr0;obtain ⟨kc,k1,k2⟩:∃kc,H ka=some (.tup [.int (p:Nat),.str kd,.ref kc])∧H kc=some (.tup (bs.map V.str)):=hK;obtain ⟨kt,rt,ra0,hb,hkt,hrt,hRA⟩:=id hB;push_cast [iZip];have hn:u.hs.length=(aq kinds r.shape).length:=by
  have:=(jm bk.kd _ _ _ _ w1 hla).1;simpa using this
 have hge:∀x∈u.hs,p≤x:=λx hx=>((jm bk.kd _ _ _ _ w1 hla).2 x hx).elim (λz=>nomatch z) id;have hlt:∀x∈u.hs,x < ws.length:=by
  obtain ⟨m,hm'⟩:=tw.eat ko.pl;exact se bk.kd (λv hv=>(tw.w v hv).1) _ _ _ _ 1 m w1 w2 hm' (λ_ z=>(aa8 z).elim) hla
 have zl:(ip kinds (r,u)).length=u.hs.length:=by unfold ip;rw[aea,hn,ae2]
 refine au r1 rfl (au hb rfl (au r1 rfl (K5 (SqT.of hkt) (SqT.of r2) w1 (by omega) λl H4 s4 hl4 h4=>?_)));have kn4:=kn.at s4;obtain ⟨φ,hd4⟩:=kn4.nd.ex;have hld:l≠d:=λe=>by rw[e,hd4] at h4;cases h4
 have hed:et≠d:=λe=>by rw[←e,s4 _ _ hE] at hd4;cases hd4
 obtain ⟨Pv,ePv⟩:∃Pv:Nat→L2.St→Hp→Prop,∀i σ H',Pv i σ H'↔∃(acc:Int) (v8 v9 v10 v11:Option V) (kvs':List (NK×V)),σ=[some (.ref b),some (.ref wt),some (.ref et),some (.ref ka),some (.ref ra),some (.ref sa),some (.ref d),some (.int acc),v8,v9,v10,v11]∧ao d H4 H'∧Known P w kinds ws g d H' kvs'∧Way g p kd bs r.price (ip kinds (r,u)) acc ((ip kinds (r,u)).drop i):=⟨_,λ_ _ _=>abi⟩;refine ⟨l,rfl,⟨u.hs.map plV,SqT.of (s4 _ _ hS)⟩,⟨_,SqL.of h4⟩,Kq (c:=true) (xs:=u.hs.map plV) (ys:=(aq kinds r.shape).map V.str) Pv ((ePv _ _ _).mpr ⟨r.price,none,none,none,none,kvs,rfl,ao.refl _ _,kn4,Way.start (bk.pr r hr0)⟩) (by rw[aa1,aa1,hn]) (λi σ H' _ h=>by obtain ⟨_,_,_,_,_,_,_,s,_⟩:=(ePv _ _ _).mp h;exact ⟨SqT.of (kn4.nd.tup s _ _ (s4 _ _ hS)),SqL.of (s _ _ hld h4)⟩) ?_ ?_⟩
 ·intro i x y σ H5 pz hx hy hh hp;obtain ⟨acc,v8,v9,v10,v11,kvs5,rfl,s5,kn5,wy⟩:=(ePv _ _ _).mp hh;rw[aaa] at hx hy;obtain ⟨q0,hq,rfl⟩:=Option.map_eq_some_iff.mp hx;obtain ⟨z,hz,rfl⟩:=Option.map_eq_some_iff.mp hy;have hk:(ip kinds (r,u))[i]?=some (q0,z):=List.getElem?_zip_eq_some.mpr ⟨hq,hz⟩;have hil:=(List.getElem?_eq_some_iff.mp hk).1;have ek:(ip kinds (r,u))[i]=(q0,z):=(List.getElem?_eq_some_iff.mp hk).2;have hkm:(q0,z)∈ip kinds (r,u):=aaf hk;have hqm:=aaf hq;have hzk:z∈kinds:=x6 _ _ z (aaf hz);rw[aax hil,ek] at wy;refine Bq ae rfl ?_;have s6:=aa hp (.tup [plV q0,V.str z]);generalize upd H5 pz (.tup [plV q0,V.str z])=H6 at s6 ⊢;push_cast [and_true];refine ⟨by show (0:Nat)≤sizeLine;decide,λel hel=>?_⟩;have s7:=s6.trans (aa hel (.tup []));have e7:upd H6 el (.tup []) el=some (.tup ([].map V.str)):=ae;generalize upd H6 el (.tup [])=H7 at s7 e7 ⊢;have tk7:TK H H7:=λ_ _ h=>s7 _ _ (kn4.nd.tup s5 _ _ (s4 _ _ h));refine dy (λσ' H8=>∃(bl:Addr) (bs':List Str),σ'=[some (.ref b),some (.ref wt),some (.ref et),some (.ref ka),some (.ref ra),some (.ref sa),some (.ref d),some (.int acc),some (.int (q0:Nat)),some (.str z),some (.ref bl),v11]∧ah H7 H8∧H8 bl=some (.tup (bs'.map V.str))∧((q0=p∧bs'=az (bs++[kd]))∨(q0≠p∧bs'=[]))) ?_ ?_
  ·push_cast [and_true];refine au (tk7 _ _ k1) rfl ⟨rfl,bz (λc=>?_) λc=>?_⟩
   ·have c1:q0=p:=by
     have:=V.int.inj c;omega
    refine au (tk7 _ _ k1) rfl (au (tk7 _ _ k1) rfl ⟨by show (1:Nat)≤sizeLine;decide,λoa hoa=>?_⟩);have s8:=aa hoa (.tup [V.str kd]);have e8:upd H7 oa (.tup [V.str kd]) oa=some (.tup [V.str kd]):=ae;generalize upd H7 oa (.tup [V.str kd])=H8 at s8 e8 ⊢;have bl0:=ko.len bk.kn;have kl:=bk.kl;refine Co (s8 _ _ (tk7 _ _ k2)) e8 (by rw[aa1,aac];omega) λca H9 s9 e9=>?_;rw[show bs.map V.str++[V.str kd]=(bs++[kd]).map V.str by rw[aa6];rfl] at e9;refine ⟨ca,rfl,_,.inr (SqT.of e9),by rw[aa1,aa2,aac];omega,_,tq,λsl is hpm hin hsl=>?_⟩;rw[jc hpm hin];exact ⟨_,.inl ⟨SqL.of ae,λtl htl=>⟨s8.trans (s9.trans ((aa hsl _).trans (aa htl _))),_,ae,.inl ⟨c1,rfl⟩⟩⟩⟩
   ·exact ⟨ah.refl _,[],e7,.inr ⟨λe=>c (by rw[e]),rfl⟩⟩
  ·rintro σ' H8 ⟨bl,bs',rfl,s8,e8,cs⟩;have kn8:=kn5.at (s7.trans s8);have tk8:TK H H8:=λ_ _ h=>s8 _ _ (tk7 _ _ h);have S8:ao d H H8:=(ao.of s4).trans (s5.trans (ao.of (s7.trans s8)));have hb':∀x∈bs',q0=p∧x∈bs++[kd]:=λx hx=>by
    rcases cs with ⟨c1,rfl⟩ | ⟨_,rfl⟩
    ·exact ⟨c1,gp.mp hx⟩
    ·cases hx
   push_cast [and_true];refine ⟨bl,_,rfl,.inr (SqT.of e8),rfl,List.all_eq_true.mpr λv hv=>by obtain ⟨_,_,rfl⟩:=List.mem_map.mp hv;rfl,?_⟩;refine (show if (inV (.str z) (bs'.map V.str))=true then Q (.int 0) H8 else _ from bz (λc=>?_) λc=>?_)
   ·obtain ⟨z',hz',e⟩:=List.mem_map.mp (jj c);obtain rfl:z'=z:=V.str.inj e;obtain ⟨e1,e2⟩:=hb' _ hz';exact q 0 kvs5 H8 S8 kn8 (wy.barred hkm e1 e2)
   have nz:z∉bs':=λh=>c (nj (List.mem_map.mpr ⟨z,h,rfl⟩));refine ⟨by show (3:Nat)≤sizeLine;decide,λck hck=>?_⟩;have s9:=aa hck (.tup [V.int (q0:Nat),V.str z,V.ref bl]);have e9:upd H8 ck (.tup [V.int (q0:Nat),V.str z,V.ref bl]) ck=some (.tup [V.int (q0:Nat),V.str z,V.ref bl]):=ae;generalize upd H8 ck (.tup [V.int (q0:Nat),V.str z,V.ref bl])=H9 at s9 e9 ⊢;have tk9:TK H H9:=λ_ _ h=>s9 _ _ (tk8 _ _ h);have ko':KOk kinds ws q0 z bs':=⟨hlt q0 hqm,hzk,nz,by
    rcases cs with ⟨_,rfl⟩ | ⟨_,rfl⟩
    ·refine M7 bk.kn (List.nodup_append.mpr ⟨(jb bk.kn).sublist ko.ba,List.nodup_cons.mpr ⟨aa8,aca⟩,λx hx y hy e=>?_⟩) λx hx=>?_
     ·rw[List.mem_singleton.mp hy] at e;exact ko.no (e ▸ hx)
     ·rcases List.mem_append.mp hx with hx | hx
      ·exact gp.mp (ko.ba.subset hx)
      ·rw[List.mem_singleton.mp hx];exact ko.km
    ·exact ae4 _⟩
   have hmu:mu kinds ws q0 bs'≤n:=by
    have:=hge q0 hqm;rcases cs with ⟨rfl,rfl⟩ | ⟨c1,rfl⟩
    ·have:=Ld (bs':=az (bs++[kd])) bk.kn ko (by rw[fw,aa2];rfl);omega
    ·have:=mu_far bk.kn ko (show p < q0 by omega) (hlt q0 hqm);omega
   refine Ep (hB.keep λh=>tk9 _ _ h) (tk9 _ _ hW) (s9 _ _ (s8 _ _ (s7 _ _ (s5 _ _ hed (s4 _ _ hE))))) ⟨bl,e9,s9 _ _ e8⟩ bk tw T ko' hmu (kn8.at s9) λv kvs' H10 s10 kn10 gv=>⟨rfl,bz (λc0=>?_) λc0=>?_⟩
   ·obtain rfl:v=0:=V.int.inj c0;exact q 0 kvs' H10 (S8.trans ((ao.of s9).trans s10)) kn10 (wy.none T.pos hkm gv hb')
   ·exact (ePv _ _ _).mpr ⟨acc+v,_,_,_,_,kvs',rfl,s5.trans ((ao.of (s7.trans (s8.trans s9))).trans s10),kn10,wy.step hkm gv hb' (λe=>c0 (by rw[e]))⟩
 ·intro σ H5 hh;obtain ⟨acc,v8,v9,v10,v11,kvs5,rfl,s5,kn5,wy⟩:=(ePv _ _ _).mp hh;rw[aa1,←zl,ac1] at wy;push_cast [and_true];exact q acc kvs5 H5 ((ao.of s4).trans s5) kn5 wy.done
noncomputable abbrev Al:Stmt:=top 38
theorem yo:av ["book","words","ends","key","known","place","kind","barred","best","rule","under","price"] ["book","words","ends","key","known"] (ak Al):=⟨rfl,rfl,rfl,by decide+kernel,rfl,by decide+kernel,by decide+kernel⟩
theorem Lh (G:Gs w K mg κ) (h_law_laid:Has P w K mg base k "_law_laid" ["kinds","shape","words","ends","place"] (rh K)) (h_law_with_holes:Has P w K mg base k "_law_with_holes" ["book","words","ends","key","rule","spots","known"] (Aj P w n)) (D:Def K mg "_law_best" Al ["book","words","ends","key","known"]):Has P w K mg base (k+1) "_law_best" ["book","words","ends","key","known"] (lr P w (n+1)):=by
 refine D.has yo (λvs H Q E h=>?_) (λf cdv A outer s H vs Q E hr h=>?_)
 ·obtain ⟨_,_,_,_,_,_,_,_,_,_,_,_,_,rfl,_,_,_,_,_,_,_,_,_,_,_⟩:=h;rfl
 have nd:=yo.nd;have hu:=b8 hr;have hu0:=aah hu;have hu8:=Kv hr;obtain ⟨b,wt,et,ka,d,kinds,rs,ws,g,p,kd,bs,kvs,rfl,hB,hW,hE,hK,bk,tw,T,ko,hm,kn,q⟩:=h;refine ⟨_,(A4 (AB (BK (@pc_nin _ _ _ _ _ hu8 (A0 3) (A0 4)) (by first | exact dq _ (by decide) (by decide) | rfl)) (A7 (AC (@Qf _ _ _ _ _ _ hu8 (A0 4) (A0 3) (λ_ _=>rfl)))) (AK 0)) (A4 (CJ (A0 3) (BX 3 (AS (AL 5 nd (by first | exact ab1 rfl | exact ab2 rfl)) (AS (AL 6 nd (by first | exact ab1 rfl | exact ab2 rfl)) (AS (AL 7 nd (by first | exact ab1 rfl | exact ab2 rfl)) (BP 0)))))) (A4 (A6 8 nd (A2 0)) (A4 (AY (BJ (A8 (AF 0) (A0 0) (A2 0))) (AL 9 nd (by first | exact ab1 rfl | exact ab2 rfl)) (A4 (A6 10 nd (@o7 _ _ _)) (BC (AB (AA (AM 0) (A8 (AF 0) (A0 9) (A2 0)) (A0 6) (A9 0)) (A7 (A6 10 nd (AG h_law_laid hr (A1 (A8 (AF 0) (A0 0) (A2 0)) (A1 (A8 (AF 0) (A0 9) (A2 0)) (A1 (A0 1) (A1 (A0 2) (A1 (A0 5) (A3 0))))))))) (AK 0)) (A7 (AB (BK (C7 (A0 10)) (by first | exact dq _ (by decide) (by decide) | rfl)) (A4 (A6 11 nd (AG h_law_with_holes hr (A1 (A0 0) (A1 (A0 1) (A1 (A0 2) (A1 (A0 3) (A1 (A0 9) (A1 (A8 (AF 0) (A0 10) (A2 0)) (A1 (A0 4) (A3 0)))))))))) (A7 (AB (B8 (BF (AA (BB 0) (A0 11) (A2 0) (A9 0)) (BI (B8 (C8 (AA (AM 0) (A0 8) (A2 0) (A9 0)) (@ym _ _ _ _ (AA (@pf _) (A0 11) (A0 8) (A9 0)))))))) (A7 (A6 8 nd (A0 11))) (AK 0)))) (AK 0)))))) (A4 (@Oo _ _ _ _ _ _ _ _ _ hu8 (A0 4) (A0 3) (A0 8) rfl) (A7 (AC (A0 8)))))))),?_⟩;rw[show start ["book","words","ends","key","known","place","kind","barred","best","rule","under","price"] [.ref b,.ref wt,.ref et,.ref ka,.ref d]=[some (.ref b),some (.ref wt),some (.ref et),some (.ref ka),some (.ref d),none,none,none,none,none,none,none] from rfl];clear hu hu0 nd hr;push_cast [and_true];have sz:=sizeLine_eq;push_cast [tNIn,tNGet,Jl];have hK0:=hK;obtain ⟨kc,k1,k2⟩:∃kc,H ka=some (.tup [.int (p:Nat),.str kd,.ref kc])∧H kc=some (.tup (bs.map V.str)):=hK;obtain ⟨kt,rt,ra,hb,hkt,hrt,hRA⟩:=id hB;obtain ⟨φ,hd⟩:=kn.nd.ex;have hed:et≠d:=λe=>by rw[e,hd] at hE;cases hE
 refine ⟨_,⟨kvs,_,ka,kn.nd,rfl,hK0,rfl⟩,bz (λc=>?_) λ_=>?_⟩
 ·obtain ⟨y,hy⟩:=Option.isSome_iff_exists.mp c;obtain ⟨v,rfl,gv⟩:=kn.val hy;exact ⟨_,⟨kvs,_,ka,kn.nd,rfl,hK0,hy.symm⟩,q v kvs H (ao.refl _ _) kn gv⟩
 refine Lo k1 rfl ?_;push_cast [and_true];refine au hb rfl ⟨rt,rfl,⟨_,SqT.of hrt⟩,?_⟩;obtain ⟨Pv,ePv⟩:∃Pv:Nat→L2.St→Hp→Prop,∀i σ H',Pv i σ H'↔∃(best:Int) (v9 v10 v11:Option V) (kvs':List (NK×V)),σ=[some (.ref b),some (.ref wt),some (.ref et),some (.ref ka),some (.ref d),some (.int (p:Nat)),some (.str kd),some (.ref kc),some (.int best),v9,v10,v11]∧ao d H H'∧Known P w kinds ws g d H' kvs'∧Bst kinds rs ws g p kd bs i best:=⟨_,λ_ _ _=>abi⟩;refine gu (xs:=ra.map V.ref) Pv ((ePv _ _ _).mpr ⟨0,none,none,none,kvs,rfl,ao.refl _ _,kn,Bst.start⟩) (λi σ H' _ h=>by obtain ⟨_,_,_,_,_,_,s,_⟩:=(ePv _ _ _).mp h;exact SqT.of (kn.nd.tup s _ _ hrt)) ?_ ?_
 ·intro i x σ H5 hx hh;obtain ⟨best,v9,v10,v11,kvs5,rfl,s5,kn5,bst⟩:=(ePv _ _ _).mp hh;rw[aaa] at hx;obtain ⟨ri,hri,rfl⟩:=Option.map_eq_some_iff.mp hx;have hil:i < rs.length:=by rw[←hRA.1];exact (List.getElem?_eq_some_iff.mp hri).1
  obtain ⟨r,hr⟩:∃r,rs[i]?=some r:=⟨_,aa0 hil⟩;obtain ⟨a',ha',hR0⟩:=hRA.2 i r hr;obtain rfl:a'=ri:=aa3 (ha'.symm.trans hri);have hrm:=aaf hr;obtain ⟨w1,w2,w3⟩:=bk.sh r hrm;have tk5:TK H H5:=kn.nd.tup s5;have hR:gj H5 a' r:=by
   obtain ⟨sa,da,ds,r1,r2,r3⟩:=hR0;exact ⟨sa,da,ds,tk5 _ _ r1,tk5 _ _ r2,tk5 _ _ r3⟩
  obtain ⟨sa,da,ds,r1,r2,r3⟩:=id hR;push_cast [and_true];refine dy (λσ' H6=>∃uv:V,σ'=[some (.ref b),some (.ref wt),some (.ref et),some (.ref ka),some (.ref d),some (.int (p:Nat)),some (.str kd),some (.ref kc),some (.int best),some (.ref a'),some uv,v11]∧ah H5 H6∧((uv=.non∧(r.kind=kd→bo kinds ws r.shape p ⟨[],[],[]⟩=none))∨∃ut u,uv=.ref ut∧r.kind=kd∧bo kinds ws r.shape p ⟨[],[],[]⟩=some u∧qj H6 ut u)) ?_ ?_
  ·push_cast [and_true];refine au r1 rfl ⟨rfl,bz (λc=>?_) λc=>⟨ah.refl _,λe=>absurd (by rw[e]) c⟩⟩;have ek:r.kind=kd:=V.str.inj c;refine au (tk5 _ _ hb) rfl (au r1 rfl (Qu (p:=p) (SqT.of r2) (SqT.of (tk5 _ _ hkt)) (SqT.of (tk5 _ _ hW)) (s5 _ _ hed hE) bk.kd w1 w2 (by omega) tw ko.pl λH6 s6=>?_));cases hu:bo kinds ws r.shape p ⟨[],[],[]⟩ with
   | none=>exact pj ⟨s6,.inl ⟨rfl,λ_=>rfl⟩⟩
   | some u=>exact λt H7 s7 hu7 _=>⟨s6.trans s7,.inr ⟨t,rfl,ek,u,rfl,hu7⟩⟩
  ·rintro σ' H6 ⟨uv,rfl,s6,cs⟩;have kn6:=kn5.at s6;have S6:ao d H H6:=s5.trans (ao.of s6);have tk6:TK H H6:=kn.nd.tup S6;push_cast [qu];rcases cs with ⟨rfl,no⟩ | ⟨ut,u,rfl,ek,hla,hu7⟩
   ·exact ifN (by simp) ((ePv _ _ _).mpr ⟨best,_,_,_,kvs5,rfl,S6,kn6,bst.skip hr no⟩)
   obtain ⟨u1,u2,u3,g1,g2,_⟩:=hu7;refine ifY (by simp) (au g1 rfl ?_);refine Qz (p:=p) (bs:=bs) (hB.keep λh=>tk6 _ _ h) (tk6 _ _ hW) (S6 _ _ hed hE) ⟨kc,tk6 _ _ k1,tk6 _ _ k2⟩ (hR.same s6) g2 bk tw T ko hm hrm hla kn6 λv kvs7 H7 s7 kn7 gw=>?_;obtain ⟨b1,b2⟩:=bst.step T ko.pl hr ek hla gw;have S7:=S6.trans s7;refine bz (λc1=>⟨rfl,bz (λc2=>?_) λc2=>bz (λc3=>?_) λc3=>?_⟩) λc1=>?_
   ·exact (ePv _ _ _).mpr ⟨v,_,_,_,kvs7,rfl,S7,kn7,b1 ⟨c1,.inl c2⟩⟩
   ·exact (ePv _ _ _).mpr ⟨v,_,_,_,kvs7,rfl,S7,kn7,b1 ⟨c1,.inr c3⟩⟩
   ·exact (ePv _ _ _).mpr ⟨best,_,_,_,kvs7,rfl,S7,kn7,b2 λz=>z.2.elim c2 c3⟩
   ·exact (ePv _ _ _).mpr ⟨best,_,_,_,kvs7,rfl,S7,kn7,b2 λz=>c1 z.1⟩
 ·intro σ H5 hh;obtain ⟨best,v9,v10,v11,kvs5,rfl,s5,kn5,bst⟩:=(ePv _ _ _).mp hh;rw[aa1,hRA.1] at bst;push_cast [Jl];have gv:=bst.done bk T;have hl:=kn5.len bk.kl tw.len;have tk5:TK H H5:=kn.nd.tup s5;exact ⟨kvs5,kn5.nd,_,⟨kc,tk5 _ _ k1,tk5 _ _ k2⟩,by omega,λH6 s6 nd6=>q best _ H6 (s5.trans λc u hc e=>s6 c u hc e) (kn5.put ko gv nd6) gv⟩
theorem Bj (n:Nat) (G:Gs w K mg κ) (h_law_laid:Has P w K mg base k "_law_laid" ["kinds","shape","words","ends","place"] (rh K)) (h_law_holes:Has P w K mg base k "_law_holes" ["kinds","shape"] (m4 K)) (D1:Def K mg "_law_best" Al ["book","words","ends","key","known"]) (D2:Def K mg "_law_with_holes" zm ["book","words","ends","key","rule","spots","known"]):Has P w K mg base (k+2*n+1) "_law_best" ["book","words","ends","key","known"] (lr P w n):=match n with
 | 0=>D1.has yo (λvs H Q E h=>(qt h).elim) (λf cdv A outer s H vs Q E hr h=>(qt h).elim)
 | n+1=>Lh (k:=k+2*n+2) G (h_law_laid.up (by omega)) (Nq (k:=k+2*n+1) G (Bj n G h_law_laid h_law_holes D1 D2) (h_law_holes.up (by omega)) D2) D1
noncomputable abbrev sLaw:Stmt:=top 41
theorem scLaw:av ["script","deck","cell","names","book","words","ends","known","due","place","kind","price","best"] ["script"] (ak sLaw):=⟨rfl,rfl,rfl,by decide+kernel,rfl,by decide+kernel,by decide+kernel⟩
theorem hasLaw {f:Addr} {fd:FuncData} (G:Gs w K mg κ) (h_law_best:Has P w K mg base k "_law_best" ["book","words","ends","key","known"] (lr P w 200)) (h_law_book:Has P w K mg base k "_law_book" ["deck","names"] Fd) (h_law_ends:Has P w K mg base k "_law_ends" ["words"] (Dy K)) (h_law_names:Has P w K mg base k "_law_names" ["deck"] vg) (h_law_next:Has P w K mg base k "_law_next" ["deck"] jw) (h_law_term:Has P w K mg base k "_law_term" ["deck","names","most"] Ab) (h_law_told:Has P w K mg base k "_law_told" ["book","words","kind"] uq) (h_cover_price:j3 P w K mg base k "cover_price" ["book","words","place","kind","cover"] (uu κ)) (h_prices:Has P w K mg base k "prices" ["book","words"] nk) (F:Fun K "law" "law" sLaw f fd):l9 P w K mg base CX0 (k+1) f fd ["script"] (Lf K):=by
 refine F.ok scLaw (λvs H Q E h=>?_) (λcdv A outer s H vs Q E hr h=>?_)
 ·obtain ⟨_,_,rfl,_,_,_⟩:=h;rfl
 have nd:=scLaw.nd;have hu:=b8 hr;have hu0:=aah hu;have hu8:=Kv hr;obtain ⟨a,ns,rfl,hA,hn,q⟩:=h;have m_len:=G.m_len;have m_range:=G.m_range;have m_sorted:=G.m_sorted;refine ⟨_,(A4 (A6 1 nd (AD (A1 (BV (@rq _) (A0 0) (@jd _) (BW (A2 0))) (A1 (A2 0) (A3 0))))) (A4 (A6 2 nd (AG h_law_next hr (A1 (A0 1) (A3 0)))) (A4 (A6 3 nd (AG h_law_names hr (A1 (A0 1) (A3 0)))) (A4 (A6 4 nd (AG h_law_book hr (A1 (A0 1) (A1 (A0 3) (A3 0))))) (A4 (A6 4 nd (AH (A1 (A8 (AF 0) (A0 4) (A2 0)) (A1 (BV (@yv _) (A8 (AF 0) (A0 4) (A2 0)) (@jd _) (BW (A2 0))) (A3 0))))) (A4 (A6 5 nd (AG h_law_term hr (A1 (A0 1) (A1 (A0 3) (A1 (A8 (AW 0) (AD (BD (BT (BT (BT (BE 0)))))) (A5 (AE 0) (A0 2) (A2 0))) (A3 0)))))) (A4 (A6 6 nd (AG h_law_ends hr (A1 (A0 5) (A3 0)))) (A4 (A6 7 nd (@Oh _ _)) (A4 (A6 8 nd (AD (A3 0))) (A4 (AY (BU m_range (A1 (AR (AX 0) m_len d4 (A1 (A0 5) (A3 0))) (A3 0))) (AL 9 nd (by first | exact ab1 rfl | exact ab2 rfl)) (A7 (AY (BH (AR (@ji _) m_sorted vd (A1 (A8 (AF 0) (A0 4) (A2 0)) (A3 0)))) (AL 10 nd (by first | exact ab1 rfl | exact ab2 rfl)) (A4 (A6 11 nd (AG h_law_best hr (A1 (A0 4) (A1 (A0 5) (A1 (A0 6) (A1 (AH (A1 (A0 9) (A1 (A0 10) (A1 (AH (A3 0)) (A3 0))))) (A1 (A0 7) (A3 0)))))))) (A7 (AB (AA (BB 0) (A0 11) (A2 0) (A9 0)) (A7 (AO (AQ PySem.F.plainAttrs_list PySem.F.slot_list_append PySem.F.type_list_append (AU 0) (A0 8) (A1 (AH (A1 (A0 9) (A1 (A0 10) (A1 (A0 11) (A3 0))))) (A3 0))))) (AK 0))))))) (A4 (AB (AA (@Rh _ hu8) (BS (BO ["row"] [] [] trivial trivial) (BH (AG h_prices hr (A1 (A0 4) (A1 (A0 5) (A3 0))))) (λ_ _ _=>(B7 0 (show abf (["row"]:List Str) by decide+kernel))) (λ_ _ _=>(@pif0 _)) (λ_ _ _=>(BV (@yv _) (A0 0) (@jd _) (BW (A2 0))))) (A0 8) (A9 0)) (A7 (AC (BR 0))) (AK 0)) (A4 (AY (BJ (A8 (AF 0) (A0 4) (A2 0))) (AL 10 nd (by first | exact ab1 rfl | exact ab2 rfl)) (A4 (A6 12 nd (AG h_law_told hr (A1 (A0 4) (A1 (A0 5) (A1 (A0 10) (A3 0)))))) (A4 (A6 11 nd (AG h_law_best hr (A1 (A0 4) (A1 (A0 5) (A1 (A0 6) (A1 (AH (A1 (A2 0) (A1 (A0 10) (A1 (AH (A3 0)) (A3 0))))) (A1 (A0 7) (A3 0)))))))) (A7 (AB (BK (@pc_isN _ _ _ _ _ (A0 12)) (by first | exact dq _ (by decide) (by decide) | rfl)) (A7 (AB (AA (BB 0) (A0 11) (A2 0) (A9 0)) (A7 (AC (BR 0))) (AK 0))) (A7 (AB (B8 (C8 (AA (AM 0) (A0 11) (A2 0) (A9 0)) (@ym _ _ _ _ (AA (@Lx _) (@Qi _ _ _ _ _ _ _ _ _ _ h_cover_price hr (A1 (A0 4) (A1 (A0 5) (A1 (A2 0) (A1 (A0 10) (A1 (A0 12) (A3 0)))))) rfl (by decide+kernel) rfl rfl) (A0 11) (A9 0))))) (A7 (AC (BR 0))) (AK 0)))))))) (A7 (AC (BR 0))))))))))))))),?_⟩;rw[show start ["script","deck","cell","names","book","words","ends","known","due","place","kind","price","best"] [.ref a]=[some (.ref a),none,none,none,none,none,none,none,none,none,none,none,none] from rfl];clear hu hu0 nd hr;push_cast [jw,om];have sz:=sizeLine_eq;obtain ⟨ms,em,hms⟩:=Mh ns none (some 200);refine ⟨ns.map V.int,hA,λp hp=>?_⟩;rw[em];refine ⟨by show (2:Nat)≤sizeLine;decide,λdk hdk=>⟨p,ms,0,⟨ae,aa hdk _ _ _ ae⟩,by decide,λc H1 s1 d1=>?_⟩⟩;have D1:fq H1 dk p ms 1:=fq.next ⟨ae,aa hdk _ _ _ ae⟩ s1 d1
 refine Ml D1 (by omega) λnl H2 zs s2 d2 N2 tx=>?_;have D2:fq H2 dk p ms 2:=D1.next s2 d2
 refine mkBook D2 N2 (by omega) λbt0 n3 H3 kinds rs0 s3 d3 hn3 B3 bk0 hrs hrn hkz=>?_;have D3:=D2.next s3 d3
 have N3:=N2.lj D2 s3;obtain ⟨kt,rt0,ra0,b1,b2,b3,b4⟩:=id B3;refine au b1 rfl (au b1 rfl ?_);refine ⟨rt0,ra0.map V.ref,rfl,b3,λrt H4 s4 e4=>⟨by show (2:Nat)≤sizeLine;decide,λbt hbt=>?_⟩⟩;rw[show (10:Int)=((10:Nat):Int) from rfl,Ic,←adu] at e4;obtain ⟨rs,hrs0⟩:∃rs,rs=rs0.take 10:=⟨_,rfl⟩;have bk:Bk kinds rs:=by rw[hrs0];exact bk0.take 10
 have hrn':∀r∈rs,r.name∈zs:=λr hr=>hrn r (aba (by rw[←hrs0];exact hr));have s5:=s4.trans (aa hbt (.tup [V.ref kt,V.ref rt]));have B5:bh (upd H4 bt (.tup [V.ref kt,V.ref rt])) bt kinds rs:=⟨kt,rt,ra0.take 10,ae,s5 _ _ b2,aa hbt _ _ _ e4,by rw[hrs0];exact (Fe b4 10).same s5⟩;generalize upd H4 bt (.tup [V.ref kt,V.ref rt])=H5 at s5 B5 ⊢;have D5:=D3.same s5;have N5:=N3.same s5;push_cast [and_true];refine ⟨by show (3:Nat)≤sizeLine;decide,λp4 hp4=>?_⟩;obtain ⟨m,hm1,hm2,hat⟩:∃m:Nat,1≤m∧m≤25∧atI [V.int 3,V.int 9,V.int 25] (c % 3)=some (.int (m:Int)):=by
  rcases (show c % 3=((0:Nat):Int)∨c % 3=((1:Nat):Int)∨c % 3=((2:Nat):Int) by omega) with e | e | e
  ·rw[e];exact ⟨3,by decide,by decide,bg rfl⟩
  ·rw[e];exact ⟨9,by decide,by decide,bg rfl⟩
  ·rw[e];exact ⟨25,by decide,by decide,bg rfl⟩
 have q4:=aa hp4 (.lst [V.int 3,V.int 9,V.int 25]);refine aw ae hat (Qh (D5.same q4) (N5.same q4) hm1 (by omega) (by omega) λt n6 H6 ws s6 d6 hn6 ht h6 tw hwl=>?_);have B6:=(B5.same q4).keep (ku (D5.same q4) s6);clear hdk hp4 q4 s1 s2 s3 s5 D1 D2 D3 N2 N3 d1 d2 d3 D5 N5 B5 b1 b2 b3 b4 B3 s4 e4 hbt;have kz:∀z∈kinds,c4 z:=λz hz=>tx z (hkz z hz);have rz:∀r∈rs,c4 r.name:=λr hr=>tx _ (hrn' r hr);obtain ⟨g,T⟩:=tbl_ex (my (ws:=ws) bk);refine mkEnds (SqT.of h6) (λv hv=>(tw.w v hv).1) tw.one tw.len λet H7 s7 het e7=>?_;push_cast [tNNew];intro kn H8 hkn s8 n8;refine ⟨aa7 _,λdl hdl=>?_⟩;have s9:=aa hdl (.lst []);have e9:upd H8 dl (.lst []) dl=some (.lst (([]:List Addr).map V.ref)):=ae;have n9:=(Known.new (kinds:=kinds) (ws:=ws) (g:=g) n8).at s9;have nel:et≠dl:=af (s8 _ _ e7) hdl;generalize upd H8 dl (.lst [])=H9 at s9 e9 n9 ⊢;have S9:=s7.trans (s8.trans s9);have w9:=S9 _ _ h6;have f9:=(s8.trans s9) _ _ e7;have B9:=B6.same S9;obtain ⟨φ,x9⟩:=n9.nd.ex;have ned:dl≠kn:=λz=>by rw[z,x9] at e9;cases e9
 have nee:et≠kn:=λz=>by rw[z,x9] at f9;cases f9
 clear s7 s8 s9 S9 n8 hkn hdl e7 h6 B6 het;have twl:=tw.len;have kl:=bk.kl;have hmu:∀{i:Nat},i < ws.length→mu kinds ws i []≤200:=λhi=>by
  have h1:=Qq (kinds:=kinds) (bs:=[]) hi;have h2:ws.length*kinds.length≤25*8:=ad2 (by omega) kl;omega
 refine ⟨ws,.inr (SqT.of w9),by omega,by omega,?_⟩;have tn:((ws.length:Int)).toNat=ws.length:=ac8 _;rw[tn];obtain ⟨Pv,ePv⟩:∃Pv:Nat→L2.St→Hp→Prop,∀i σ H',Pv i σ H'↔∃(v9 v10 v11:Option V) (as:List Addr) (kvs:List (NK×V)),σ=[some (.ref a),some (.ref dk),some (.int c),some (.ref nl),some (.ref bt),some (.ref t),some (.ref et),some (.ref kn),some (.ref dl),v9,v10,v11,none]∧ig kn dl H9 H'∧Known P w kinds ws g kn H' kvs∧H' dl=some (.lst (as.map V.ref))∧gi H' as (lg kinds g i):=⟨_,λ_ _ _=>abi⟩;refine gc Pv ((ePv _ _ _).mpr ⟨none,none,none,[],[],rfl,ig.refl _ _ _,n9,e9,Bw _⟩) ?_ ?_
 ·intro i σ H10 hi hh;obtain ⟨v9,v10,v11,as,kvs,rfl,s10,n10,e10,t10⟩:=(ePv _ _ _).mp hh;obtain ⟨kt,rt',ra',b1,b2,b3,b4⟩:=id B9;have tk10:=s10.tup x9 e9;push_cast [and_true];rw[show (0+(i:Int))=((i:Nat):Int) from Int.zero_add _];refine au (tk10 _ _ b1) rfl ⟨kt,rfl,kinds.map V.str,.inr (SqT.of (tk10 _ _ b2)),by rw[aa1];omega,_,tq,λsl is hpm hin hsl=>?_⟩;rw[jc hpm hin];have s11:=aa hsl (.lst ((az kinds).map V.str));have e11:upd H10 sl (.lst ((az kinds).map V.str)) sl=some (.lst ((az kinds).map V.str)):=ae;generalize upd H10 sl (.lst ((az kinds).map V.str))=H11 at s11 e11 ⊢;obtain ⟨φ',x10⟩:=n10.nd.ex;have sk:sl≠kn:=(af x10 hsl).symm;have sd:sl≠dl:=(af e10 hsl).symm;obtain ⟨Pw,ePw⟩:∃Pw:Nat→L2.St→Hp→Prop,∀j σ H',Pw j σ H'↔∃(v10 v11:Option V) (as:List Addr) (kvs:List (NK×V)),σ=[some (.ref a),some (.ref dk),some (.int c),some (.ref nl),some (.ref bt),some (.ref t),some (.ref et),some (.ref kn),some (.ref dl),some (.int (i:Nat)),v10,v11,none]∧ig kn dl H11 H'∧Known P w kinds ws g kn H' kvs∧H' dl=some (.lst (as.map V.ref))∧gi H' as (lg kinds g i++jy g i ((az kinds).take j)):=⟨_,λ_ _ _=>abi⟩;refine ⟨⟨_,SqL.of e11⟩,gq (xs:=(az kinds).map V.str) Pw ((ePw _ _ _).mpr ⟨_,_,as,kvs,rfl,ig.refl _ _ _,n10.at s11,s11 _ _ e10,by rw[List.take_zero,show jy g i []=[] from rfl,ab3];exact kr t10 (TK.of s11)⟩) (λj σ H' _ h=>by obtain ⟨_,_,_,_,_,s,_⟩:=(ePw _ _ _).mp h;exact SqL.of (s _ _ sk sd e11)) ?_ ?_⟩
  ·intro j x σ H12 hx hh;obtain ⟨v10,v11,as,kvs,rfl,s12,n12,e12,t12⟩:=(ePw _ _ _).mp hh;rw[aaa] at hx;obtain ⟨z,hz,rfl⟩:=Option.map_eq_some_iff.mp hx;have hzk:z∈kinds:=gp.mp (aaf hz);have tk12:TK H9 H12:=λ_ _ h=>s12.tup (s11 _ _ x10) (s11 _ _ e10) _ _ (s11 _ _ (tk10 _ _ h));have f12:=s12 _ _ nee nel (s11 _ _ (s10 _ _ nee nel f9));have hjl:j < (az kinds).length:=(List.getElem?_eq_some_iff.mp hz).1;rw[fw] at hjl;have al:as.length≤8*ws.length+8:=by
    rw[t12.1,aa2];have h1:=wj kinds g kl i;have h2:=xw g i ((az kinds).take j);rw[aav] at h2;omega
   push_cast [and_true];refine ⟨aa7 _,λp5 hp5=>⟨by show (3:Nat)≤sizeLine;decide,λp6 hp6=>?_⟩⟩;have s13:=(aa hp5 (.tup [])).trans (aa hp6 (.tup [V.int (i:Nat),V.str z,V.ref p5]));have k13:oq (upd (upd H12 p5 (.tup [])) p6 (.tup [V.int (i:Nat),V.str z,V.ref p5])) p6 ((i:Nat),z,[]):=⟨p5,ae,aa hp6 _ _ _ ae⟩;generalize upd (upd H12 p5 (.tup [])) p6 (.tup [V.int (i:Nat),V.str z,V.ref p5])=H13 at s13 k13 ⊢;refine Ep ((B9.keep λh=>tk12 _ _ h).same s13) (s13 _ _ (tk12 _ _ w9)) (s13 _ _ f12) k13 bk tw T ⟨hi,hzk,aa8,ae4 _⟩ (hmu hi) (n12.at s13) λv kvs14 H14 s14 n14 gv=>?_;have S14:ao kn H12 H14:=(ao.of s13).trans s14;have tk14:TK H12 H14:=n12.nd.tup S14;have e14:=S14 _ _ ned e12;have ev:=gv.none;have du:=Dm g i (az kinds) hz;cases hg:g (i,z) with
   | none=>
    rw[hg] at ev du;refine ifN (by show ¬(0:Int) < v;rw[ev];decide) ((ePw _ _ _).mpr ⟨_,_,as,kvs14,rfl,s12.step S14,n14,e14,?_⟩);rw[du];show gi H14 as (lg kinds g i++(jy g i (List.take j (az kinds))++[]))
    rw[ab3];exact kr t12 tk14
   | some y=>
    have vp:=T.pos _ _ hg;rw[hg] at ev du;have ev:v=y:=ev;subst ev;refine ifY (by show (0:Int) < v;omega) ⟨ax e14,by show (3:Nat)≤sizeLine;decide,λp7 hp7=>?_⟩;have s15:=aa hp7 (.tup [V.int (i:Nat),V.str z,V.int v]);have k15:upd H14 p7 (.tup [V.int (i:Nat),V.str z,V.int v]) p7=some (.tup (([.inl ((i:Nat):Int),.inr z,.inl v]:List Key).map kV)):=ae;generalize upd H14 p7 (.tup [V.int (i:Nat),V.str z,V.int v])=H15 at s15 k15 ⊢;have e15:=s15 _ _ e14;refine ⟨dl,_,_,rfl,rfl,e15,by rw[aa1];omega,?_⟩;have tk16:TK H15 (upd H15 dl (.lst (as.map V.ref++[V.ref p7]))):=TK.put e15 (λ_ z=>nomatch z);refine (ePw _ _ _).mpr ⟨_,_,as++[p7],kvs14,rfl,((s12.step S14).step (ao.of s15)).put _,⟨(n14.at s15).nd.at tk16 (λo e=>by rw[ag ned.symm];exact e),n14.un,n14.all⟩,by rw[aa6];exact ae,?_⟩;rw[du];show gi _ (as++[p7]) (lg kinds g i++(jy g i (List.take j (az kinds))++[[.inl ((i:Nat):Int),.inr z,.inl v]]))
    rw[←abo];exact ye (kr t12 λb ys h=>tk16 _ _ (s15 _ _ (tk14 _ _ h))) (tk16 _ _ k15)
  ·intro σ H12 hh;obtain ⟨v10,v11,as,kvs,rfl,s12,n12,e12,t12⟩:=(ePw _ _ _).mp hh;rw[aa1,abj,←sy] at t12;exact (ePv _ _ _).mpr ⟨_,_,_,as,kvs,rfl,λb o h1 h2 h=>s12 b o h1 h2 (s11 _ _ (s10 b o h1 h2 h)),n12,e12,t12⟩
 ·intro σ H10 hh;obtain ⟨v9,v10,v11,as,kvs,rfl,s10,n10,e10,t10⟩:=(ePv _ _ _).mp hh;have tk10:=s10.tup x9 e9;push_cast [tIsN];refine Bu (B9.keep λh=>tk10 _ _ h) (tk10 _ _ w9) bk tw λpl bs H11 g' s11 hpl e11 T' R4=>⟨pl,rfl,⟨_,SqL.of e11⟩,λD hD=>?_⟩;obtain rfl:g=g':=T.eq T' (my bk);have rl:=l4 (g:=g) bk tw;have hbl:=R4.1;refine Lb (xs:=bs.map V.ref) (λi ys H'=>∃cs:List Addr,ys=cs.map V.ref∧gi H' cs (((rowsOf kinds rs ws g).map rw3).take i)) (λi ys H' H'' tk h=>by obtain ⟨cs,h1,h2⟩:=h;exact ⟨cs,h1,kr h2 tk⟩) (SqL.of e11) (by rw[aa1];omega) hD ⟨[],rfl,Bw _⟩ (λi x ys H12 G' K' hx hP hl2 hS' hG hK'=>?_) λys H12 hP hl2 hS' hD2=>?_
  ·rw[aaa] at hx;obtain ⟨ai,hai,rfl⟩:=Option.map_eq_some_iff.mp hx;have hil:i < (rowsOf kinds rs ws g).length:=by rw[←hbl];exact (List.getElem?_eq_some_iff.mp hai).1
   have hri:(rowsOf kinds rs ws g)[i]?=some (rowsOf kinds rs ws g)[i]:=aa0 hil;obtain ⟨a',nm,ha',hnm,g1⟩:=R4.2 i _ hri;obtain rfl:a'=ai:=aa3 (ha'.symm.trans hai);obtain ⟨cs,rfl,hc⟩:=hP;push_cast [and_true];refine ⟨a',_,rfl,hS' _ _ g1,λk H13 s13 h13=>?_⟩;rw[cut3] at h13;refine hK' _ _ s13 ⟨cs++[k],by rw[aa6];rfl,?_⟩;rw[ab4,aaa,hri];exact ye (kr hc (TK.of s13)) h13
  obtain ⟨cs,rfl,hc⟩:=hP;rw[aa1,abe (by rw[aa1];omega),L8] at hc;have S12:=s11.trans hS';refine ⟨D,dl,cs,as,_,_,rfl,rfl,hD2,S12 _ _ e10,hc,kr t10 (TK.of S12),ifN (by simp) ?_⟩;have tk12:TK H9 H12:=λ_ _ h=>S12 _ _ (tk10 _ _ h);have n12:=n10.at S12;have f12:=S12 _ _ (s10 _ _ nee nel f9);have B12:=B9.keep λh=>tk12 _ _ h;have w12:=tk12 _ _ w9;clear hD2 hc S12 hS' R4 e11 s11 t10 e10 n10 tk10 s10 hD;obtain ⟨kt,rt',ra',b1,b2,b3,b4⟩:=id B12;have wp:=tw.pos;obtain ⟨Pz,ePz⟩:∃Pz:Nat→L2.St→Hp→Prop,∀j σ H',Pz j σ H'↔∃(v9 v10 v11 v12:Option V) (kvs:List (NK×V)),σ=[some (.ref a),some (.ref dk),some (.int c),some (.ref nl),some (.ref bt),some (.ref t),some (.ref et),some (.ref kn),some (.ref dl),v9,v10,v11,v12]∧ao kn H12 H'∧Known P w kinds ws g kn H' kvs:=⟨_,λ_ _ _=>abi⟩;refine au b1 rfl ⟨kt,rfl,⟨_,SqT.of b2⟩,gu (xs:=kinds.map V.str) Pz ((ePz _ _ _).mpr ⟨_,_,_,_,kvs,rfl,ao.refl _ _,n12⟩) (λj σ H' _ h=>by obtain ⟨_,_,_,_,_,_,s,_⟩:=(ePz _ _ _).mp h;exact SqT.of (n12.nd.tup s _ _ b2)) ?_ λσ H' _=>q H'⟩;intro j y σ H13 hy hh;obtain ⟨v9,v10,v11,v12,kvs,rfl,s13,n13⟩:=(ePz _ _ _).mp hh;rw[aaa] at hy;obtain ⟨kd,hkd,rfl⟩:=Option.map_eq_some_iff.mp hy;have hkm:=aaf hkd;have tkd:=kz kd hkm;have tk13:TK H12 H13:=n12.nd.tup s13;push_cast [tIsN];have one:∀(HA:Hp) (R:VK),ah H13 HA→(∀(kvs':List (NK×V)) (HB:Hp),ao kn HA HB→Known P w kinds ws g kn HB kvs'→R (.int ((g (0,kd)).getD 0)) HB)→([]:List V).length≤sizeLine∧∀p,HA p=none→[V.int 0,V.str kd,V.ref p].length≤sizeLine∧∀p1,upd HA p (.tup []) p1=none→lr P w 200 [V.ref bt,V.ref t,V.ref et,V.ref p1,V.ref kn] (upd (upd HA p (.tup [])) p1 (.tup [V.int 0,V.str kd,V.ref p])) R E0:=λHA R sA k=>by
   refine ⟨aa7 _,λp5 hp5=>⟨by show (3:Nat)≤sizeLine;decide,λp6 hp6=>?_⟩⟩;have s14:=(aa hp5 (.tup [])).trans (aa hp6 (.tup [V.int 0,V.str kd,V.ref p5]));have S14:=sA.trans s14;refine Ep (p:=0) ((B12.keep λh=>tk13 _ _ h).same S14) (S14 _ _ (tk13 _ _ w12)) (S14 _ _ (s13 _ _ nee f12)) ⟨p5,ae,aa hp6 _ _ _ ae⟩ bk tw T ⟨wp,hkm,aa8,ae4 _⟩ (hmu wp) (n13.at S14) λv kvs' HB sB nB gv=>?_;rw[gv.none];exact k kvs' HB ((ao.of s14).trans sB) nB
  refine M9 (B12.keep λh=>tk13 _ _ h) (tk13 _ _ w12) bk tw tkd kz rz T (λhg HC sC=>one HC _ sC λkvs' HB sB nB=>?_) λv t' HC hg sC hT=>one HC _ sC λkvs' HB sB nB=>?_
  ·rw[hg];exact ifY rfl (ifN (by decide) ((ePz _ _ _).mpr ⟨_,_,_,_,kvs',rfl,s13.trans ((ao.of sC).trans sB),nB⟩))
  ·rw[hg];have vp:=T.pos _ _ hg;obtain ⟨ds,hcv,hpr⟩:=Jd bk T hg;have cl':(cov kinds rs ws g [(0,kd)]).length≤61000:=aar (Fw bk tw T _ _ λk hk=>by rw[List.mem_singleton.mp hk];exact ⟨v,hg,vp⟩) (Bg bk tw g kd wp);have tns:∀z∈cov kinds rs ws g [(0,kd)],c4 z:=λz hz=>by
    obtain ⟨r,hr,rfl⟩:=qm hcv z hz;exact rz r hr
   have SB:=(ao.of sC).trans sB;have tkB:TK H12 HB:=n12.nd.tup (s13.trans SB);have tkC:TK HC HB:=(n13.at sC).nd.tup sB;refine ifN (by intro z;cases z) ⟨rfl,ifN (λz=>by have:v=0:=V.int.inj z;omega) (Lq (p:=0) (B12.keep λh=>tkB _ _ h) (tkB _ _ w12) (tkC _ _ hT) bk tw wp tkd kz tns (by omega) (λds' hds HD sD=>⟨rfl,?_⟩) λhno=>?_)⟩
   ·obtain rfl:ds=ds':=aa3 (hcv.symm.trans hds);rw[hpr];exact ifN (by simp) ((ePz _ _ _).mpr ⟨_,_,_,_,kvs',rfl,s13.trans (SB.trans (ao.of sD)),nB.at sD⟩)
   ·rw[hcv] at hno;cases hno
end
end K54
namespace K54
open PySem PySem.Spec L2 PyProof.Rows Pc
theorem g_mk {w:World} {K:PySem.W.Frag} {h:Heap} {mg:Str→Option Value} (X:K.In h) (G:h.Ns mainGlobals mg) {g0 e0 e3 e4:Addr} {dt0x0 dt0x1 dt0x2 dt0x3 du0x0 du0x1 du0x2 du0x3 dp0:Nat} {dh0x0 dh0x1 dh0x2 dh0x3:Int} (z0:PySem.W.nsIn K mainGlobals "int"=some none) (z1:PySem.W.nsIn K mainGlobals "isinstance"=some none) (z2:PySem.W.nsIn K mainGlobals "len"=some none) (z3:PySem.W.nsIn K mainGlobals "list"=some none) (z4:PySem.W.nsIn K mainGlobals "range"=some none) (z5:PySem.W.nsIn K mainGlobals "reversed"=some none) (z6:PySem.W.nsIn K mainGlobals "sorted"=some none) (z7:PySem.W.nsIn K mainGlobals "str"=some none) (z8:PySem.W.nsIn K mainGlobals "sum"=some none) (z9:PySem.W.nsIn K mainGlobals "tuple"=some none) (z10:PySem.W.nsIn K mainGlobals "zip"=some none) (y0:PySem.W.nsIn K mainGlobals "PARTS_BELOW"=some (some (.ref g0))) (x0:K.lookup g0=some ⟨.type "dict",none,.dict #[⟨dh0x0,.str "add" dt0x0,.int 2 du0x0⟩,⟨dh0x1,.str "sub" dt0x1,.int 2 du0x1⟩,⟨dh0x2,.str "mul" dt0x2,.int 2 du0x2⟩,⟨dh0x3,.str "neg" dt0x3,.int 1 du0x3⟩] dp0,#[]⟩) (hh0x0:dh0x0=hashStr w "add") (hh0x1:dh0x1=hashStr w "sub") (hh0x2:dh0x2=hashStr w "mul") (hh0x3:dh0x3=hashStr w "neg") (ha0:(g0==sysModules)=false) (q0:XcIn K mg "CoverError" e0 vbm) (q3:XcIn K mg "BadCover" e3 (.ref e0::vbm)) (q4:XcIn K mg "NoCover" e4 (.ref e0::vbm)) (ip3:PySem.W.findIn K (.ref e3) "__init__"=some (some (.builtin "ValueError.__init__"))) (ip4:PySem.W.findIn K (.ref e4) "__init__"=some (some (.builtin "ValueError.__init__"))):Gs w K mg ⟨e0,e0,e0,e3,e4,e0,e0,e0,e0,e0,e0,e0⟩:=
 ⟨⟨q0.1,q3.1,q4.1,q0.2,q3.2,q4.2⟩,ip3,ip4,PySem.W.mg_none_of X G z0,PySem.W.mg_none_of X G z1,PySem.W.mg_none_of X G z2,PySem.W.mg_none_of X G z3,PySem.W.mg_none_of X G z4,PySem.W.mg_none_of X G z5,PySem.W.mg_none_of X G z6,PySem.W.mg_none_of X G z7,PySem.W.mg_none_of X G z8,PySem.W.mg_none_of X G z9,PySem.W.mg_none_of X G z10,⟨g0,PySem.W.mg_of X G y0,N0 [(dh0x0,"add",dt0x0,2,du0x0),(dh0x1,"sub",dt0x1,2,du0x1),(dh0x2,"mul",dt0x2,2,du0x2),(dh0x3,"neg",dt0x3,1,du0x3)] x0 ha0 (by intro e he;simp only[aal,aa8,or_false] at he;rcases he with rfl | rfl | rfl | rfl <;> assumption) (by show abf ([Sum.inr "add",Sum.inr "sub",Sum.inr "mul",Sum.inr "neg"]:List Key);decide+kernel)⟩⟩
theorem all_mk {P:Program} {w:World} {K:PySem.W.Frag} {mg:Str→Option Value} {fa:Addr} {κ:Cl} (G0:Gs w K mg κ) (D0:Def K mg "how_many_below" sHow ["word"]) (D1:Def K mg "place_behind" Ak ["words","place"]) (D2:Def K mg "leaf_letter" Me ["word","kinds"]) (D3:Def K mg "lies_upon" Nm ["letter","shape_word","word"]) (D4:Def K mg "laid" K0 ["shape","kinds","words","place"]) (D5:Def K mg "holes_under" zh ["shape","kinds","under"]) (D6:Def K mg "fitting_rules" tf ["book","words","place"]) (D7:Def K mg "price_there" Dl ["own","holes","least"]) (D8:Def K mg "settle_part" ze ["place","fitting","least"]) (D9:Def K mg "rules_with_price" Lz ["kind","price","fitting","least"]) (D10:Def K mg "rows_of_part" Ex ["book","place","fitting","least"]) (D11:Def K mg "rows_with_all_rules" Ea ["book","words"]) (D12:Def K mg "prices" zg ["book","words"]) (D13:Def K mg "laid_rule" Dt ["book","name","words","place","kind"]) (D14:Def K mg "last_hole_first" Mw ["book","step"]) (D15:Def K mg "laid_cover" yt ["book","words","place","kind","cover"]) (D16:Def K mg "cover_price" zt ["book","words","place","kind","cover"]) (D17:Def K mg "rules_of_table" Ff ["book","words"]) (D18:Def K mg "cheapest" E7 ["book","words","kind"]) (D19:Def K mg "_law_next" Ku ["deck"]) (D20:Def K mg "_law_ends" Jm ["words"]) (D21:Def K mg "_law_laid" Ds ["kinds","shape","words","ends","place"]) (D22:Def K mg "_law_term" Nf ["deck","names","most"]) (D23:Def K mg "_law_shape" Dp ["deck","kinds"]) (D24:Def K mg "_law_deeds" Fb ["kinds","shape"]) (D25:Def K mg "_law_book" Kj ["deck","names"]) (D26:Def K mg "_law_names" Dh ["deck"]) (D27:Def K mg "_law_holes" zb ["kinds","shape"]) (D28:Def K mg "_law_told" yi ["book","words","kind"]) (D29:Def K mg "_law_with_holes" zm ["book","words","ends","key","rule","spots","known"]) (D30:Def K mg "_law_best" Al ["book","words","ends","key","known"]) (L:∃fd,Fun K "law" "law" sLaw fa fd∧∀(s:Shared) (v:Value),BindsTo s fd ⟨[v],[]⟩ [("script",v)]):∃fd:FuncData,(∀(s:Shared) (v:Value),BindsTo s fd ⟨[v],[]⟩ [("script",v)])∧∀base:Heap,K.In base→base.Ns mainGlobals mg→l9 P w K mg base CX0 403 fa fd ["script"] (Lf K):=by
 obtain ⟨fd,Fl,hb⟩:=L;refine ⟨fd,hb,λbase _ _=>?_⟩;have H0:=hasHow (P:=P) (base:=base) (k:=0) G0   D0;have H1:=Ij (P:=P) (base:=base) (k:=1) G0 (H0.up (by decide))  D1;have H2:=Oe (P:=P) (base:=base) (k:=0) G0   D2;have H3:=Qb (P:=P) (base:=base) (k:=1) G0 (H0.up (by decide))  D3;have H4:=N4 (P:=P) (base:=base) (k:=2) G0 (H2.up (by decide)) (H3.up (by decide)) (H1.up (by decide))  D4;have H5:=Iy (P:=P) (base:=base) (k:=1) G0 (H2.up (by decide))  D5;have H6:=E9 (P:=P) (base:=base) (k:=3) G0 (H5.up (by decide)) (H4.up (by decide))  D6;have H7:=Lk (P:=P) (base:=base) (k:=0) G0   D7;have H8:=Iz (P:=P) (base:=base) (k:=1) G0 (H7.up (by decide))  D8;have H9:=hasWith (P:=P) (base:=base) (k:=1) G0 (H7.up (by decide))  D9;have H10:=Mv (P:=P) (base:=base) (k:=2) G0 (H9.up (by decide))  D10;have H11:=Kg (P:=P) (base:=base) (k:=4) G0 (H6.up (by decide)) (H10.up (by decide)) (H8.up (by decide))  D11;have H12:=Hv (P:=P) (base:=base) (k:=5) G0 (H11.up (by decide))  D12;have H13:=Jt (P:=P) (base:=base) (k:=3) G0 (H4.up (by decide))  D13;have H14:=Pr (P:=P) (base:=base) (k:=2) G0 (H5.up (by decide))  D14;have H15:=Ia (P:=P) (base:=base) (k:=4) G0 (H13.up (by decide)) (H14.up (by decide))  D15;have H16:=Hc (P:=P) (base:=base) (k:=5) G0 (H15.up (by decide))  D16;have H17:=Mp (P:=P) (base:=base) (k:=6) G0 (H12.up (by decide))  D17;have H18:=Nk (P:=P) (base:=base) (k:=7) G0 (H13.up (by decide)) (H14.up (by decide)) (H17.up (by decide))  D18;have H19:=hasNext (P:=P) (base:=base) (k:=0) G0   D19;have H20:=Pm (P:=P) (base:=base) (k:=0) G0   D20;have H21:=Md (P:=P) (base:=base) (k:=0) G0   D21;have H22:=Px (P:=P) (base:=base) (k:=1) G0 (H19.up (by decide))  D22;have H23:=L6 (P:=P) (base:=base) (k:=1) G0 (H19.up (by decide))  D23;have H24:=Jr (P:=P) (base:=base) (k:=0) G0   D24;have H25:=Oq (P:=P) (base:=base) (k:=2) G0 (H24.up (by decide)) (H19.up (by decide)) (H23.up (by decide))  D25;have H26:=Nj (P:=P) (base:=base) (k:=1) G0 (H19.up (by decide))  D26;have H27:=Il (P:=P) (base:=base) (k:=0) G0   D27;have H28:=Io (P:=P) (base:=base) (k:=8) G0 (H18.up (by decide))  D28;have H30:=Bj (P:=P) (base:=base) (k:=1) 200 G0 (H21.up (by decide)) (H27.up (by decide)) D30 D29;exact hasLaw (k:=402) G0 (H30.up (by decide)) (H25.up (by decide)) (H20.up (by decide)) (H26.up (by decide)) (H19.up (by decide)) (H22.up (by decide)) (H28.up (by decide)) (H16.up (by decide)) (H12.up (by decide))  Fl
end K54
open L2
namespace PySem.W.Fast
def tw5202221996959358461:=()
def tw10399590603931284312:=()
def tw17180789094721023427:=()
def tw6525210137493023572:=()
def tw7023046440935477097:=()
def tw6860857995992103144:=()
def tw8897935706425748615:=()
def tw6185039803556043837:=()
def tw8898074748113348975:=()
def tw3888789809178936313:=()
def tw7026178435887895833:=()
def tw2284670896323214679:=()
def tw2341139340481355798:=()
def tw17659293863370685941:=()
def tw9210057119959149160:=()
def tw9928634582184192384:=()
def tw760109209811878711:=()
def tw9585677945393300283:=()
def tw9243485535241448329:=()
def tw9446140575010531784:=()
def tw13549631915971732593:=()
def tw16822509488518464012:=()
def tw9678085353080934820:=()
def tw6489301790934548374:=()
def tw4307032977483662919:=()
def tw2040295839349380232:=()
def tw9392484149974154760:=()
def tw11590527337957559827:=()
def tw28718385279119847:=()
def tw4883220777850365395:=()
def tw11127510398225890212:=()
def tw14908361956015399658:=()
def tw1054697605267211591:=()
def tw12534885917455425918:=()
def tw9582010790747690926:=()
def tw5968557407568444181:=()
def tw1725806407044968266:=()
def tw1611003661193140343:=()
def tw8656201153958722781:=()
def tw4093130897622423726:=()
def tw7305155725727893735:=()
def tw9677368359823525324:=()
def tw7423140897306887021:=()
def tw5538827211697393265:=()
def tw2254714719809204114:=()
def tw165222456501361602:=()
def tw15235808673504957680:=()
def tw15577250463041134665:=()
def tw17204948819653955430:=()
def tw12858686275280704596:=()
def tw11276894944661416724:=()
def tw10954365465707074717:=()
def tw2075670464891194246:=()
def tw14984091515638491066:=()
def tw10387507377055452399:=()
def tw3538291146337332513:=()
def tw1487880532048307190:=()
def tw16874495232417611254:=()
def tw15179391713410746568:=()
def tw9223767449984343212:=()
def tw6623920393898744848:=()
def tw529857466007765651:=()
def tw13405916092069552536:=()
def tw11756094194060458876:=()
def tw10227460761264654881:=()
def tw2803943203332233063:=()
def tw5467744121810578955:=()
def tw9880701474994432437:=()
def tw7454432161569772397:=()
def tw10040685527786088072:=()
def tw3200193165869986934:=()
def tw8386156867970484077:=()
def tw16135435811326971365:=()
def tw7231076979145321505:=()
def tw16042816596475626789:=()
def tw15455101144940565884:=()
def tw602374411205990993:=()
def tw6599240361486936417:=()
def tw6626042408189703629:=()
def tw5303263890406379464:=()
def tw6352954799707198972:=()
def tw15059853404228084668:=()
def tw18430643394812073928:=()
def tw8215440369978791890:=()
def tw9196061095508688787:=()
def tw6744748335701779426:=()
def tw14629763265207004060:=()
def tw8857465833530779770:=()
def tw9127041858690450114:=()
def tw11334819270869142011:=()
def tw6058568834012946527:=()
def tw14883859155138249472:=()
def tw5839064390479492305:=()
def tw13361569341078835629:=()
def tw2358163011478222819:=()
def tw16418856443544678037:=()
def tw7733816503772639163:=()
def tw2448974858147623458:=()
def tw8784030577929906377:=()
def tw11989907003274577303:=()
def tw6597630591275875070:=()
def tw7224572511410653993:=()
def tw12128993996430424822:=()
def tw18290090686633699654:=()
def tw17752528748271842919:=()
def tw5961863263529244428:=()
def tw1607095855977955620:=()
def tw12732965516149996984:=()
def tw8543855597909674473:=()
def tw8603395125637159846:=()
def tw940179568612420087:=()
def tw14462064350426340284:=()
def tw1177128887306264128:=()
def tw3381913878090865401:=()
def tw13546045171830907245:=()
def tw9519701262261466766:=()
def tw13433240154703000382:=()
def tw15386640876740616348:=()
def tw8392126438145647279:=()
def tw14510944966495720217:=()
def tw17872200223910176367:=()
def tw14016729009112126362:=()
def tw1618500390609258459:=()
def tw4431041300530511389:=()
def tw7341158145404360715:=()
def tw14928312698232500921:=()
def tw11053283903911273960:=()
def tw82216259502577217:=()
def tw16735754509203284971:=()
def tw2843084851598776795:=()
def tw11828465405065637435:=()
def tw8377772000098062854:=()
def tw174878919014897206:=()
def tw1403537903571249093:=()
def tw4351555372813601266:=()
def tw3064100453226620235:=()
def tw11796015921248633120:=()
def tw9952817733649878872:=()
def tw14646005647347475395:=()
def tw4490513431849468783:=()
def tw15764926849099005683:=()
def tw13575641473983532163:=()
def tw10499335649896329480:=()
def tw14503649151418071345:=()
def tw8813645257563454554:=()
def tw797526558468062797:=()
def tw5600488882456712847:=()
def tw8930025301637352394:=()
def tw9060000300997687874:=()
def tw8562925392276725808:=()
def tw7947160521587976282:=()
def tw10954547943630915432:=()
def tw15587592684182099184:=()
def tw9403333300690714114:=()
def tw4390643073892706298:=()
def tw1638949017160145765:=()
def tw13959405732591164205:=()
def tw10358793001858649151:=()
def tw4101216418088861224:=()
def tw15261877006374033744:=()
def tw6508714518653440411:=()
def tw11384838713491556157:=()
def tw6787369951826718175:=()
def tw10628721433810785277:=()
def tw9291172580444674055:=()
def tw12443555150892373456:=()
def tw782009116940983411:=()
def tw9886305038122590891:=()
def tw1431099022890705720:=()
def tw16176294805799574611:=()
def tw4732132110259983281:=()
def tw9436505621146405047:=()
def tw16761867230176701821:=()
def tw8606710615870676469:=()
def tw5804259551620056966:=()
def tw1851628858020473905:=()
def tw17255256194228908511:=()
def tw13671675275449421227:=()
def tw6586715183805135195:=()
def tw16254481873938254415:=()
def tw1666460878040738771:=()
def tw569662885264523237:=()
def tw11854796038197934969:=()
def tw16450275426664586844:=()
def tw25982510949320178:=()
def tw6997591519024204835:=()
def tw7838228779584128826:=()
def tw15657098301831329337:=()
def tw14615928638052589513:=()
def tw11355627388875006498:=()
def tw1337980548291906927:=()
def tw11997384109294716550:=()
def tw7916142083517961798:=()
def tw12028308758035075061:=()
def tw18099310267953572470:=()
def tw16754957972772001718:=()
def tw14690780897708565866:=()
def tw401623678735368374:=()
def tw17599729246609906544:=()
def tw2281574536216314414:=()
def tw6105495916600388000:=()
def tw15966280227723187355:=()
def tw9372300276804606462:=()
def tw17155738745481484956:=()
def tw4866272753815634044:=()
def tw7758544137036860541:=()
def tw1433182087047643976:=()
def tw14018978547004191199:=()
def tw16693951523161932054:=()
def tw7722843475755183766:=()
def tw14704133871078953728:=()
def tw12459578293207856950:=()
def tw10656074461079421500:=()
def tw14092902990463924754:=()
def tw3787324525797816699:=()
def tw18387455147394472550:=()
def tw10388996717442817116:=()
def tw9613398966480701964:=()
def tw17276974950448087831:=()
def tw8078880420718299364:=()
def tw12051766534467080277:=()
def tw1129911396518103215:=()
def tw3495014528554926121:=()
def tw17940087420823753905:=()
def tw16194055477565484091:=()
def tw12401842208657505257:=()
def tw11091156477189318517:=()
def tw6122312693695419027:=()
def tw1028434126351845457:=()
def tw4646324267177512060:=()
def tw4549071286015697764:=()
def tw4701745113096311597:=()
def tw15224429109151189005:=()
def tw4575533020022960165:=()
def tw570026795605278734:=()
def tw5278586532579351177:=()
def tw10214539090948106366:=()
def tw4014293361903690304:=()
def tw2364553552706203978:=()
def tw10116498060615822256:=()
def tw11215715312942568320:=()
def tw11284264184247586753:=()
end PySem.W.Fast
open PySem PySem.W PyProof.Rows
set_option maxRecDepth 100000 in
set_option maxHeartbeats 0 in
theorem PySem.Challenge.cw_pricecover_k54_whole_all_ways_tried_holds : PySem.Challenge.rw_pricecover_k54_whole_all_ways_tried.Holds := by
 w_on;o_law;k_head;(case hw=>w_witness2)
 k_fill
 refine P0 (l:=PySem.Challenge.rw_pricecover_k54_whole_all_ways_tried) (n:=63) (k:=403) (x:="script") (CX:=fun _=>CX0) (sp:=fun w=>K54.Lf _) rfl (by decide) rfl ⟨rfl,by decide,by decide⟩ (fun w h Y=>kIn_of Y) ?F (fun _ _ a ns hl _ hS=>⟨a,ns,rfl,hS,hl,fun _=>rfl⟩) fun _ _ _ _ _ z=>z
 intro w mg fa h X G hmg
 refine' K54.all_mk ?G ?D0 ?D1 ?D2 ?D3 ?D4 ?D5 ?D6 ?D7 ?D8 ?D9 ?D10 ?D11 ?D12 ?D13 ?D14 ?D15 ?D16 ?D17 ?D18 ?D19 ?D20 ?D21 ?D22 ?D23 ?D24 ?D25 ?D26 ?D27 ?D28 ?D29 ?D30 ?L
 (case D0=>apply bp X G (ba1 rfl fun _ _ _ _ _ _ _=>rfl) <;> k_is)
 (case D1=>apply bp X G (ba2 rfl fun _ _ _ _ _ _ _ _=>rfl) <;> k_is)
 (case D2=>apply bp X G (ba2 rfl fun _ _ _ _ _ _ _ _=>rfl) <;> k_is)
 (case D3=>apply bp X G (ba3 rfl fun _ _ _ _ _ _ _ _ _=>rfl) <;> k_is)
 (case D4=>apply bp X G (ba4 rfl fun _ _ _ _ _ _ _ _ _ _=>rfl) <;> k_is)
 (case D5=>apply bp X G (ba3 rfl fun _ _ _ _ _ _ _ _ _=>rfl) <;> k_is)
 (case D6=>apply bp X G (ba3 rfl fun _ _ _ _ _ _ _ _ _=>rfl) <;> k_is)
 (case D7=>apply bp X G (ba3 rfl fun _ _ _ _ _ _ _ _ _=>rfl) <;> k_is)
 (case D8=>apply bp X G (ba3 rfl fun _ _ _ _ _ _ _ _ _=>rfl) <;> k_is)
 (case D9=>apply bp X G (ba4 rfl fun _ _ _ _ _ _ _ _ _ _=>rfl) <;> k_is)
 (case D10=>apply bp X G (ba4 rfl fun _ _ _ _ _ _ _ _ _ _=>rfl) <;> k_is)
 (case D11=>apply bp X G (ba2 rfl fun _ _ _ _ _ _ _ _=>rfl) <;> k_is)
 (case D12=>apply bp X G (ba2 rfl fun _ _ _ _ _ _ _ _=>rfl) <;> k_is)
 (case D13=>apply bp X G (ba5 rfl fun _ _ _ _ _ _ _ _ _ _ _=>rfl) <;> k_is)
 (case D14=>apply bp X G (ba2 rfl fun _ _ _ _ _ _ _ _=>rfl) <;> k_is)
 (case D15=>apply bp X G (ba5 rfl fun _ _ _ _ _ _ _ _ _ _ _=>rfl) <;> k_is)
 (case D16=>apply bp X G (ba5 rfl fun _ _ _ _ _ _ _ _ _ _ _=>rfl) <;> k_is)
 (case D17=>apply bp X G (ba2 rfl fun _ _ _ _ _ _ _ _=>rfl) <;> k_is)
 (case D18=>apply bp X G (ba3 rfl fun _ _ _ _ _ _ _ _ _=>rfl) <;> k_is)
 (case D19=>apply bp X G (ba1 rfl fun _ _ _ _ _ _ _=>rfl) <;> k_is)
 (case D20=>apply bp X G (ba1 rfl fun _ _ _ _ _ _ _=>rfl) <;> k_is)
 (case D21=>apply bp X G (ba5 rfl fun _ _ _ _ _ _ _ _ _ _ _=>rfl) <;> k_is)
 (case D22=>apply bp X G (ba3 rfl fun _ _ _ _ _ _ _ _ _=>rfl) <;> k_is)
 (case D23=>apply bp X G (ba2 rfl fun _ _ _ _ _ _ _ _=>rfl) <;> k_is)
 (case D24=>apply bp X G (ba2 rfl fun _ _ _ _ _ _ _ _=>rfl) <;> k_is)
 (case D25=>apply bp X G (ba2 rfl fun _ _ _ _ _ _ _ _=>rfl) <;> k_is)
 (case D26=>apply bp X G (ba1 rfl fun _ _ _ _ _ _ _=>rfl) <;> k_is)
 (case D27=>apply bp X G (ba2 rfl fun _ _ _ _ _ _ _ _=>rfl) <;> k_is)
 (case D28=>apply bp X G (ba3 rfl fun _ _ _ _ _ _ _ _ _=>rfl) <;> k_is)
 (case D29=>apply bp X G (ba7 rfl fun _ _ _ _ _ _ _ _ _ _ _ _ _=>rfl) <;> k_is)
 (case D30=>apply bp X G (ba5 rfl fun _ _ _ _ _ _ _ _ _ _ _=>rfl) <;> k_is)
 (case L=>apply law_mk X G hmg (fun _ _ _ _ _ _ _=>rfl) <;> k_is)
 case G=>
  refine' K54.g_mk X G ?z0 ?z1 ?z2 ?z3 ?z4 ?z5 ?z6 ?z7 ?z8 ?z9 ?z10 ?y0 ?x0 ?hh0x0 ?hh0x1 ?hh0x2 ?hh0x3 ?ha0 ?q0 ?q3 ?q4 ?ip3 ?ip4
  (case z0=>k_is)
  (case z1=>k_is)
  (case z2=>k_is)
  (case z3=>k_is)
  (case z4=>k_is)
  (case z5=>k_is)
  (case z6=>k_is)
  (case z7=>k_is)
  (case z8=>k_is)
  (case z9=>k_is)
  (case z10=>k_is)
  (case y0=>k_is)
  (case x0=>k_is)
  (case hh0x0=>first | rfl | k_is)
  (case hh0x1=>first | rfl | k_is)
  (case hh0x2=>first | rfl | k_is)
  (case hh0x3=>first | rfl | k_is)
  (case ha0=>first | rfl | decide | k_is)
  (case q0=>apply K9 X G (.inl rfl) <;> k_is)
  (case q3=>apply K9 X G (.inr ⟨_,rfl⟩) <;> k_is)
  (case q4=>apply K9 X G (.inr ⟨_,rfl⟩) <;> k_is)
  (case ip3=>k_is)
  (case ip4=>k_is)
#print axioms PySem.Challenge.cw_pricecover_k54_whole_all_ways_tried_holds
